import PyProof.Rows.All
import Wide.All
import OpenK.AllK
import Wide.FinOn
import Lean
import PyProof.EqAt
import PyProof.EqKinds
import PyProof.TupleCall
import PyProof.Rows.TupAdd
import PyProof.NeKinds
import KE.LcSums
import PyProof.ListRange
import PyProof.ListMulRoad
import PyProof.Draws
import PyProof.EnumMake
import PyProof.MinMaxWalk
import PyProof.WalkInts
import PyProof.Rows.SortStr
import PyProof.Rows.SortKeyStr
import PyProof.WalksMore
import PyProof.TupleKey
import KE.KDictLaws
import KE.KDictOf
import KE.KDictList
import PyProof.TupleOfGen
import KE.KRevIter
import PySem.Challenge.RW_pageties_k09_whole_rows_and_webs_changed
set_option Elab.async false
set_option linter.all false
set_option maxRecDepth 100000
set_option maxHeartbeats 4000000
local macro_rules|`(⋯)=>`(by omega)
local macro_rules|`(∅)=>`(by decide)
local macro_rules|`(‹_›)=>`(by decide +kernel)
local macro_rules|`(tactic|right)=>`(tactic|dsimp only)
abbrev Y1:=@decide_eq_true
abbrev y6:=@if_pos
abbrev W4:=@decide_eq_false
abbrev x6:=@PySem.wpAny_pure
abbrev y8:=@if_neg
abbrev lZ:=@of_decide_eq_true
abbrev u3:=@absurd
abbrev lE:=@congrArg
abbrev qJ:=@of_decide_eq_false
abbrev VP:=PySem.Value->PySem.Shared->Prop
abbrev i6:=List (PySem.Addr×PySem.Obj)
open PySem renaming wpAny_bind->A0,Value->A9,Shared->Ae,wpAny->Ah,Addr->As,model->Aw,Str->Ba,wpAny_newObj_type->Bc,sizeLine_eq->Bk,Program->Bs,starEach->Bt,Around->Bz,Builtin->C1,wpAny_holding->Ca,mem_of_lookup->Cc,World->Ce,Heap->Ch,wpAny_mono->Cm,wpAny_of_eq->Cn,wpAny_call_entry->Ct,foldedSetIterable->Cu,wpAny_callSpecial?_slot->Cy,SetTable->D4,wpAny_setState_of->D5,Spec->D6,cLine->D8,mainGlobals->D9,builtinLookup_eq_fast->Da,bootBuiltins->Db,compareOp->De,behindInMarks->Dj,wpAny_truthy_bool->Dk,Stmt->Dl,wpAny_field->Dt,assignEach->E6,wpAny_tryCatch->Eb,eval->Ec,wpAny_updateSeq->Ee,wpAny_seqItems->En,isSubtype_type->Eo,swapsWith->Er,typeLookup_type->Et,codeAny->Eu,wpAny_pyIter_tuple->Ev,wpAny_Call_Name_kw->Ex,backTo->F0,wpAny_specialOf->F5,wpAny_typeOf->F9,attributeBase->Fb,wpAny_setField->Fk,wpAny_rule->Fl,intKind->Fn,wpAny_passesOwn->Fu,sysModules->G6,wpAny_pyNext_tuple_item->Gc,wpAny_forIn_list->Gd,updateSeq->Gh,wpAny_askSetting->Gi,richCompare->Gm,wpAny_letGo->Gn,wpAny_evalAll_cons->Gq,FuncData->Gt,bindArgs->Gu,wpAny_loadPart'->Gv,wpAny_standAt->Gy,wpAny_attempt->Ha,pyNext->Hb,wpAny_pyIter_list->Hd,Pos->Hi,binaryOp->Hj,NameKind->Hk,firstArgMember->Hm,holding->Hs,cellsFrom->Ht,Keyword->Hu,wpAny_isInstance->Hx,argsOk->Ia,wpAny_newList->Ig,builtinsNs->Il,tupleKind_room_in1->Io,sliceBounds->Is,keywordEach->Iu,wpAny_pyNext_tuple_end->Ix,getItem->Ja,wpAny_runValue->Jb,wpAny_evalAll_nil->Jg,wpAny_storeSet_of->Jk,call_meets->Js,seqItems?->Ju,collect->Jz,Obj->Ka,wpAny_execs_nil->Kg,letOwnedTupleGo->Kh,codeAny_of_tree->Kl,wpAny_ite_split->Ko,wpAny_setEntries_of->Kr,setNext->Kv,codeAmong->Kx,Paired->Ky,Result->Kz,IsPart->L1,typeLookup->L5,entryFor->L7,standAt->Lf,wpAny_sequenceKey->Lh,wpAny_pyIter_enum->Li,wpAny_pyIter_slot->Lq,ofAClassStatement->Ls,assign->Lw,noFill_tuple_add->M8,backToKw->M9,checkBuiltinCall->Mg,entryFor_of_tree->Mh,wpAny_load->Mm,concat_meets->Mn,defaultsOf->Mp,wpAny_ite_false->Ms,again->Mx,subscripted->My,relayAll->N0,entryFor_alias->N1,tupleKind->N3,PassesOwn->N4,callerA->N5,Arguments->N6,newList->N7,Fin->Na,valueAt->Nb,pickOrder->Nc,isSubtype->Nd,Walks->Nf,rangeSize_one->Ng,seq_tuple_add->Nh,evalPart_none->Nj,wpAny_handled->Nk,pyIter->Nq,setAdd->Nu,setsByText->Nv,BindsTo->Nx,newTuple->O0,setAddHashed->O4,call_meetsIn->O6,Env->O7,putSet_of->O8,table->O9,seqIndex_of->Oa,wpAny_throw->Od,atKey->Oe,unsupported->Of,hashByValue->Og,wpAny_Name->Oh,CmpOp->Oi,truthy->Oj,wpAny_call->Ol,bindL->Om,bindC->On,Meets->Oo,call->Oq,closureFor->Os
open List renaming length_map->A3,getElem?_eq_getElem->A4,mem_cons_self->A6,mem_cons_of_mem->A7,range->Aa,mem_append_right->Ab,mem_cons->Ac,size_toArray->Af,mem_singleton->Ag,map_cons->Ai,mem_range->Am,getElem?_map->Ao,length_append->Ap,mem_map->Aq,length_range->At,length_cons->Au,mem_append->Az,getElem?_eq_some_iff->B0,idxOf_lt_length_of_mem->B1,map_map->B2,map_congr_left->B6,mem_filter->B7,map_append->B9,getElem?_set_ne->Bb,replicate->Bf,length_singleton->Bg,mem_append_left->Bn,lookup_cons->Bq,pairwise_map->Bu,getElem_mem->Bv,toArray->Bw,nodup_cons->By,mem_of_getElem?->C6,mem_map_of_mem->Cd,getElem?_set_self->Ck,append_assoc->Cp,nodup_append->Cq,append_nil->Cr,filterMap_cons->Cs,getD_eq_getElem?_getD->Cv,length_set->D1,nodup_range->D2,pairwise_cons->D7,pairwise_singleton->Df,not_mem_nil->Dg,getElem?_append_left->Do,pairwise_append->Dy,pairwise_lt_range->E5,getElem_of_mem->E8,length_filter_le->Ea,length_nil->Ed,length_take->Eg,getElem?_cons_succ->Eh,nodup_nil->Ep,replicate_succ->Es,mem_filterMap->Ew,zip_cons_cons->Ey,eq_nil_of_length_eq_zero->F1,getElem?_range->F8,any_cons->Fc,length_drop->Ff,all_eq_true->Fg,getElem?_append_right->Fi,take_append_drop->Fp,getElem?_eq_none->Fq,drop_eq_getElem_cons->Fs,flatten_cons->Fy,length_reverse->Gb,map_nil->Go,range_succ_eq_map->Gp,getElem_idxOf->Gr,find?_cons->Gw,idxOf_cons->Gx,eraseIdx_sublist->Hc,perm_append_singleton->Hq,idxOf_cons_self->Hr,ext_getElem->Hv,pairwise_iff_getElem->Hz,getLast?_eq_some_iff->I0,filter_sublist->Ie,Pairwise->Ii,of_mem_zip->Ij,foldl_cons->Ik,pairwise_filterMap->Iv,take_of_length_le->Jf,ext_getElem?->Jl,reverse_cons->Jn,length_replicate->Jp,getElem_map->Jt,take_length->Jw,length->Kb,mem_iff_getElem->Kd,getElem?_of_mem->Ke,nil_append->Kj,range_succ->Kn,map_id'->Kw,zip_nil_right->L0,take_zero->L9,take_sublist->Lg,map_id->Lj,range'->Lk,getElem_drop->Lo,idxOf_append->Lu,drop_length->Mb,any_eq_true->Mc,mem_flatMap->Mj,filter_map->Mv,map_take->Nm,foldl->Nt,Nodup->Nw
open PySem.W renaming Frag->A5,fnOf->E3,keepIn->Fh,kas_rev->Fo,kas_place->Fw,kas_desc->Fz,kas_descPart->G0,codeIn->Iy,nsIn->Jd,kdv_fn->Je,codeHdIn->Jv,kas_asc->Jy,methodObj->Le,envX->Mq,OpenLaw->Mu,kas_tail3->N8,kas_count->N9,mg_of->Nn,KasT->Oy
open PySem.Heap renaming get?_push_of_some->A8,lt_size->Aj,get?_push_size->Ak,get?_update_other->Bd,get?_update_self->C9,SameBut->Dd,size_push->Dx,size_update->Hw,ExtBut->Oc
open Nat renaming le_refl->Ad,ne_of_lt->An,lt_of_lt_of_le->B3,zero_le->Bh,lt_succ_of_lt->C5,le_trans->C7,ne_of_gt->Cw,le_of_lt->Dc,lt_irrefl->Di,lt_trans->Dv,lt_succ_self->E4,le_succ->E9,not_lt_zero->Fx,lt_of_le_of_lt->Im,lt_trichotomy->Lr,succ_le_succ->Ma,le_add_right->Md,min_eq_left->Mt,zero_add->O2,sub_self->O5
open Array renaming length_toList->Ar,getElem?_toList->C0,getElem?_eq_getElem->D0,getD->Em,getElem?_eq_some_iff->Fm,getD_eq_getD_getElem?->He,getElem?_eq_none->Jm,toList_push->Ll
open Int renaming toNat_natCast->Av,eq_ofNat_of_zero_le->Dh,min_eq_left->Ef,min_eq_right->Ei,max_eq_right->Ej,max_eq_left->F6,toNat_of_nonneg->Ib,le_total->Ku,emod_lt_of_pos->Lc,zero_add->Mr,le_refl->Ob
open Bool renaming false_ne_true->Ay,false_eq_true->B4,and_eq_true->B8,not_true->Fe,not_eq_true'->Hf,or_false->Jx,or_eq_true->Ki,false_or->M0,true_or->O1
open Option renaming map_eq_some_iff->B5,isSome_iff_exists->Ds,isSome_map->G4
open PySem.SetTable renaming below->Be,leap->Cb,runEnd->E2,grown->F3,bits->Fd,insertAt->G5,Probe->Hn,toList_insertAt->Ih,sizeAbove->La,turns->Lb,layClean->Lp,slot->M5,advance->Mf,tooFull->Mi,laid->Nl
open Option.some renaming inj->Bi
open PyProof.Rows renaming seqObj->Bj,slot_tuple_getitem->C3,IntsAre->Cj,envOfC->Du,callWith_type1->Ek,callWith_kw->G9,listUpdate_at->Gz,IsTup->Jo,envOfC->Jr,entry_tuple_getitem->Kq,AllBare->Ks,listItems_at->Kt,args_tuple_getitem->L4,subscriptTail->Ly,size_push'->Mo,seqEpoch_at->Mz,tupleItemsOf_->Ni,Subscript_->Nr,failedOf->Nz,SortKind->Ot,keyKind'->Ou
open PySem.Str renaming ofString->Bl
open PySem.PassesOwn renaming never->Bm
open Prod renaming fst->Bo,snd->Mk,ext->Op
open PySem.Heap.SameBut renaming update->Bp
open PySem.Around renaming under_plainId->Br
open PySem.Value renaming none->Bx,type->C4,ref->Co,int->Ip,notImplemented->Kc,isInt_shape->Ld,str->N2,bool->Np
open PySem.NameKind renaming free->C2,cell->Dz
open PySem.Builtin.Builtins renaming bindParams->C8
open Sum renaming inl->Cf,inr->Ml
open PySem.Obj renaming mapSeq->Cg,putSet->Ho
open Pure renaming pure->Ci
open PySem.Builtin.Tuple renaming tupleExact->Cz0,tupleItemsOf->Hl
open Ne renaming symm->Cz
open Or renaming inr->D3,inl->E7
open PySem.SeqAt renaming RcNeAt->Dm,EqAt->Ge,RcAt->Gj,EqAt->No
open PySem.Builtin.Slice renaming slicePlaces->Dp,sliceApplied->Fj,sliceAdjust->Hy
open Classical renaming byContradiction->Dq,choose_spec->Jq
open PySem.F renaming plain_max_loop->Dr,plainAttrs_list->Gf,args_tuple_add_2->If,entry_tuple_add->Ir,plainAttrs_dict->Iw,slot_tuple_add->Iz,entry_max_loop->Jh,plain_max->Lm,entry_max->Ln,kind_max->Me
open PySem.Builtin.List renaming listExtendWith->Dw,listTooLong->Ez,listSameRef->Ga
open List.Pairwise renaming nil->El
open List.Perm renaming refl->F2,swap->Jj
open ForInStep renaming yield->F4
open PyProof.Rows.F renaming plain_set_update_loop->F7
open PySem.SetTable.layClean renaming free->Fa
open PySem.Builtin.SmallTypes renaming nextOf->Ft
open Array.Perm renaming refl->Fv
open False renaming elim->G7
open PySem.AutoSeq1 renaming wpAny_loadPart'->G8
open MonadExcept renaming tryCatch->Gg
open Sum.inl renaming inj->Gk
open PySem.SetTable.probe renaming go->Hg
open List.Sublist renaming append->Ic,refl->Lt
open PySem.Builtin.Range renaming rangeSize->Iq
open PySem.Data renaming seq->Jc
open PySem.SetTable.below renaming go->Ji
open Prod.mk renaming inj->Kf
open PySem.Fin renaming again->Kk
open True renaming intro->L6
open ToString renaming toString->L8
open PySem.Paired renaming length->Lv
open Function renaming comp->Lz
open PySem.Shared renaming TypeIs->M6
open List.cons renaming inj->M7
open Min renaming min->Mw
open PySem.W.KasT renaming ask->Ny
open PySem.pickOrder renaming go->O3
open PySem.Walks renaming list->Ov
open PySem.SeqAt.EqAt renaming same->Ow
open Except renaming ok->Ox
namespace L2
open PySem PySem.Spec PyProof.Rows
abbrev d4:=Sum Int Ba
def xV:d4->A9->Bool
 | .inl k,v=>A9.isInt k v
 | .inr x,v=>A9.isStrOf x v
def v3P(w:Ce):d4->Int
 | .inl k=>hashInt k
 | .inr x=>hashStr w x
theorem sK:∀{k:d4} {v:A9},xV k v=true->(∃i t,k=Cf i/\v=Ip i t)\/(∃x t,k=Ml x/\v=N2 x t)
 | .inl i,v,h=>by obtain⟨t,e⟩:=Ld (k:=i) (v:=v) h;exact .inl ⟨i,t,rfl,e⟩
 | .inr x,v,h=>by obtain⟨t,e⟩:=A9.isStrOf_shape (x:=x) (v:=v) h;exact .inr ⟨x,t,rfl,e⟩
def Yk(i:Int)(t:Tok):xV (.inl i) (.int i t)=true:=by simp[xV,A9.isInt]
def Yl(x:Ba)(t:Tok):xV (.inr x) (.str x t)=true:=by simp[xV,A9.isStrOf]
def v09(a b:Int):decide ((Cf a:d4)=Cf b)=(a==b):=by
 by_cases e:a=b
 .subst e;simp
 .have h:¬(Cf a:d4)=Cf b:=λq=>e (Gk q);rw[W4 h];exact(beq_eq_false_iff_ne.mpr e).symm
def v06(a b:Ba):decide ((Ml a:d4)=Ml b)=decide (a=b):=by
 by_cases e:a=b
 .subst e;simp
 .have h:¬(Ml a:d4)=Ml b:=λq=>e (Ml.inj q);rw[W4 h,W4 e]
def v08(a:Int)(b:Ba):decide ((Cf a:d4)=Ml b)=false:=W4 (λq=>nomatch q)
def v07(a:Ba)(b:Int):decide ((Ml a:d4)=Cf b)=false:=W4 (λq=>nomatch q)
def mX(prog:Bs)(w:Ce):PySem.KeyKind prog w d4 where
 is:=xV
 hash:=v3P w
 inj:=λv a b ha hb=>by
  rcases sK ha with⟨i,t,rfl,rfl⟩|⟨x,t,rfl,rfl⟩
  .rcases sK hb with⟨j,u,rfl,e⟩|⟨y,u,rfl,e⟩
   .injection e with e1 _;rw[e1]
   .exact nomatch e
  .rcases sK hb with⟨j,u,rfl,e⟩|⟨y,u,rfl,e⟩
   .exact nomatch e
   .injection e with e1 _;rw[e1]
 byValue:=λk v h=>by rcases sK h with⟨i,t,rfl,rfl⟩|⟨x,t,rfl,rfl⟩<;>rfl
 pyHash:=λhv h=>by
  rcases sK hv with⟨i,t,rfl,rfl⟩|⟨x,t,rfl,rfl⟩
  .exact wpAny_pyHash_int h
  .exact wpAny_pyHash_str h
 eqBool:=λhu hv h=>by
  rcases sK hu with⟨i,t,rfl,rfl⟩|⟨x,t,rfl,rfl⟩
  .rcases sK hv with⟨j,u,rfl,rfl⟩|⟨y,u,rfl,rfl⟩
   .rw[v09]at h;exact wpAny_eqBool_int h
   .rw[v08]at h;exact No.int_str i t y u _ _ _ _ h
  .rcases sK hv with⟨j,u,rfl,rfl⟩|⟨y,u,rfl,rfl⟩
   .rw[v07]at h;exact No.str_int x t j u _ _ _ _ h
   .rw[v06]at h;exact wpAny_eqBool_str h
 «strs»:=λk x t v h=>by
  rcases sK h with⟨i,u,rfl,e⟩|⟨y,u,rfl,e⟩
  .exact nomatch e
  .injection e with e1 _;subst e1;cases v<;>rfl
def VS(prog:Bs)(w:Ce)(i:Int)(t:Tok):(mX prog w).is (.inl i) (.int i t)=true:=Yk i t
def VT(prog:Bs)(w:Ce)(x:Ba)(t:Tok):(mX prog w).is (.inr x) (.str x t)=true:=Yl x t
inductive V where
 |non|bl (b:Bool)|int (i:Int)|str (x:Ba)|byt (b:Array UInt8)|flt (b:UInt64)|ref (a:As)|ty (n:String)
 deriving DecidableEq
def f9:V->A9->Prop
 | .non,u=>u=Bx
 | .bl b,u=>u=Np b
 | .int i,u=>∃t,u=Ip i t
 | .str x,u=>∃t,u=N2 x t
 | .byt b,u=>∃t,u=A9.bytes b t
 | .flt b,u=>∃t,u=A9.float b t
 | .ref a,u=>u=Co a
 | .ty n,u=>u=C4 n
abbrev Y4:List V->List A9->Prop:=Ky f9
def Y4.length{xs:List V}{us:List A9}(r:Y4 xs us):xs.length=us.length:=Lv r
theorem Y4.get:∀{xs:List V} {us:List A9} {i:Nat} {x:V},Y4 xs us->xs[i]?=some x->∃u,us[i]?=some u/\f9 x u
 |_,_,_,_,.nil,e=>by simp at e
 |_,_,0,_,.cons r _,e=>by simp at e;subst e;exact⟨_,rfl,r⟩
 |_,_,i+1,x,.cons _ t,e=>by obtain⟨u,h1,h2⟩:=Y4.get (i:=i) (x:=x) t (by simpa using e);exact⟨u,by simpa using h1,h2⟩
theorem Y4.append:∀{xs ys:List V} {us ws:List A9},Y4 xs us->Y4 ys ws->Y4 (xs++ys) (us++ws)
 |_,_,_,_,.nil,s=>s
 |_,_,_,_,.cons r t,s=>.cons r (Y4.append t s)
theorem Y4.take:∀{xs:List V} {us:List A9} (n:Nat),Y4 xs us->Y4 (xs.take n) (us.take n)
 |_,_,0,_=>.nil
 |_,_,_+1,.nil=>.nil
 |_,_,n+1,.cons r t=>.cons r (Y4.take n t)
theorem Y4.drop:∀{xs:List V} {us:List A9} (n:Nat),Y4 xs us->Y4 (xs.drop n) (us.drop n)
 |_,_,0,r=>r
 |_,_,_+1,.nil=>.nil
 |_,_,n+1,.cons _ t=>Y4.drop n t
def pU:Option V->Option A9->Prop
 |some v,some u=>f9 v u
 |none,none=>True
 |_,_=>False
def KV{κ:Type}:List (κ×V)->List (κ×A9)->Prop:=Ky λ(p:κ×V) (q:κ×A9)=>p.1=q.1/\f9 p.2 q.2
def kV:d4->V
 | .inl i=>.int i
 | .inr x=>.str x
inductive HO where
 /-- a list -/
 |lst (xs:List V)
 /-- a tuple (never changes) -/
 |tup (xs:List V)
 /-- a dict whose keys are ints and texts;one whose keys are tuples of ints and texts (the empty one is fX) -/
 |dK (kvs:List (d4×V))|dT (kvs:List (List d4×V))
 /-- a set of ints: its members,its size -/
 |set (S:Int->Bool) (n:Nat)
 /-- an instance of the class at C,its dict at dx,its attributes -/
 |ins (C dx:As) (fs:List (Ba×V))
 /-- the dict of the instance at x -/
 |own (x:As)
 /-- the dict of an exception -/
 |xd (fs:List (Ba×V))
 /-- a bound method,f of x -/
 |met (f x:As)
 /-- a range object lo,lo+1,.. below hi -/
 |rng (lo hi:Int)
 /-- a thing that is known to the object (the script;a dict while a loop walks it): read,never written while it is so -/
 |frz (o:Ka) (u:HO)
 /-- a code object's O9 -/
 |tbl (ps:Array A9)
 /-- any other thing,by what is true of its one object (a def of one's own: SetO a S n:=HO.ext λh=>..) -/
 |ext (φ:Ch->Prop)
abbrev Hp:=As->Option HO
def upd(H:Hp)(a:As)(o:HO):Hp:=λb=>if b=a then some o else H b
def w6:upd H a o a=some o:=by unfold upd;rw[y6 rfl]
def j3{a b:As}(h:b≠a):upd H a o b=H b:=by unfold upd;rw[y8 h]
def v1U{H:Hp}{o u:HO}(h:H a=some o)(h':H b=some u)(d:o≠u):a≠b:=by intro e;subst e;rw[h]at h';exact d (Bi h')
def Z0{H:Hp}{o:HO}(h:H a=some o)(h':H b=none):a≠b:=by intro e;subst e;rw[h]at h';cases h'
def RY(ps:Array A9):Ba:=match (ps[0]?:Option A9) with|some (N2 q _)=>q++".<locals>."++"<lambda>" |_=>"<lambda>"
def o5(h:Ch)(a:As)(items:Array A9):Prop:=∃o,h.get? a=some o/\o.cls = .type "tuple"/\(∃n,o.data = .seq items n)/\o.dict=none
def o5.isTup(x:o5 h a items):Jo h a items:=let ⟨o,e,c,d,_⟩:=x;⟨o,e,c,d⟩
def o5.new(h:Ch)(items:Array A9):o5 (h.push { cls:=.type "tuple",data:=.seq items }) h.objs.size items:=⟨_,Ak _ rfl,rfl,⟨_,rfl⟩,rfl⟩
section
variable(P:Bs)(w:Ce)
def kX(H:Hp)(h:Ch)(a:As):HO->Prop
 | .lst xs=>xs.length<=sizeLine/\∃(its:List A9) (n:Nat),Y4 xs its/\h.get? a=some { cls:=.type "list",data:=.seq its.toArray n }
 | .tup xs=>xs.length<=sizeLine/\∃its:List A9,Y4 xs its/\o5 h a its.toArray
 | .dK kvs=>kvs.length<=sizeLine/\(a==G6)=false/\∃vs,KV kvs vs/\h.DictOf (mX P w) a vs
 | .dT kvs=>kvs.length<=sizeLine/\(a==G6)=false/\∃xs:List (List d4×As×A9),
   Ky (λ(p:List d4×V) (q:List d4×As×A9)=>p.1=q.1/\H q.2.1=some (.tup (p.1.map kV))/\f9 p.2 q.2.2) kvs xs /\
   ∃o es ep,h.get? a=some o/\o.ExactDict/\o.data = .dict es ep/\es.toList=xs.map (entryOfKey (N3 (mX P w)))/\(xs.map (·.1)).Nodup
 | .set S n=>h.SetOf (Fn P w) a S n
 | .ins C dx fs=>H dx=some (.own a)/\fs.length<=1000/\dx≠a/\h.get? a=some (PySem.W.instObj C dx) /\
   ∃mA,h.Ns1 dx mA/\(∀f,pU (fs.lookup f) (mA f))/\PySem.Within mA (fs.map (·.1))
 | .own _=>∃o,h.get? a=some o
 | .xd fs=>∃mA,h.Ns1 a mA/\∀f,pU (fs.lookup f) (mA f)
 | .rng lo hi=>∃t u v,h.get? a=some { cls:=.type "range",data:=.fields #[.int lo t,.int hi u,.int 1 v] }
 | .frz o u=>h.get? a=some o/\kX H h a u
 | .tbl ps=>∃qs:Array A9,h.get? a=some { cls:=.none,data:=.fields qs }/\TriplesOk qs.toList/\∀(p:Hi) (v:A9),Kx p qs.toList=some v->∃(c:As) (oc:Ka) (vs:Array A9) (t:Tok),v = .ref c/\H c=some (.frz oc (.own a))/\oc.data = .fields vs/\vs[1]?=some (.str (RY ps) t)
 | .met f x=>h.get? a=some (Le (.ref f) (.ref x))
 | .ext φ=>φ h/\(∃o,h.get? a=some o)/\∀h1 h2:Ch,φ h1->(∀o,h1.get? a=some o->h2.get? a=some o)->φ h2
def lF(H:Hp)(h:Ch):Prop:=∀a o,H a=some o->kX P w H h a o
end
section
variable{P:Bs}{w:Ce}{H H':Hp}{h h':Ch}{a:As}{o:HO}
theorem kX.lt(x:kX P w H h a o):a<h.objs.size:=by
 cases o with
 |lst xs=>obtain⟨_,_,_,_,e⟩:=x;exact Aj e
 |tup xs=>obtain⟨_,_,_,p⟩:=x;exact p.isTup.lt
 |dK kvs=>obtain⟨_,_,_,_,o,_,_,e,_⟩:=x;exact Aj e
 |dT kvs=>obtain⟨_,_,_,_,o,_,_,e,_⟩:=x;exact Aj e
 |set S n=>obtain⟨o,_,_,_,e,_⟩:=x;exact Aj e
 |ins C dx fs=>obtain⟨_,_,_,e,_⟩:=x;exact Aj e
 |own y=>obtain⟨_,e⟩:=x;exact Aj e
 |xd fs=>obtain⟨_,⟨_,_,_,e,_⟩,_⟩:=x;exact Aj e
 |rng lo hi=>obtain⟨_,_,_,e⟩:=x;exact Aj e
 |frz ob u=>obtain⟨e,_⟩:=x;exact Aj e
 |tbl ps=>obtain⟨_,e,_⟩:=x;exact Aj e
 |met f y=>exact Aj (show h.get? a=some _ from x)
 |ext φ=>obtain⟨_,⟨_,e⟩,_⟩:=x;exact Aj e
theorem Ky.mapP{α β:Type}{F G:α->β->Prop}:∀{l₁:List α} {l₂:List β},Ky F l₁ l₂->(∀a b,F a b->G a b)->Ky G l₁ l₂
 |_,_,.nil,_=>.nil
 |_,_,.cons r t,f=>.cons (f _ _ r) (Ky.mapP t f)
theorem kX.stay(x:kX P w H h a o)(k:∀b u,(b=a\/H b=some (.own a))->h.get? b=some u->h'.get? b=some u)(ho:∀b,H b=some (.own a)->H' b=some (.own a))(ht:∀b xs,H b=some (.tup xs)->H' b=some (.tup xs))(hz:∀b ob u,H b=some (.frz ob u)->H' b=some (.frz ob u)):kX P w H' h' a o:=by
 induction o with
 |lst xs=>obtain⟨z,its,n,r,e⟩:=x;exact⟨z,its,n,r,k _ _ (.inl rfl) e⟩
 |tup xs=>obtain⟨z,its,r,ob,e,c⟩:=x;exact⟨z,its,r,ob,k _ _ (.inl rfl) e,c⟩
 |dK kvs=>obtain⟨z,y,vs,r,ob,es,ep,e,c⟩:=x;exact⟨z,y,vs,r,ob,es,ep,k _ _ (.inl rfl) e,c⟩
 |dT kvs=>obtain⟨z,y,xs,r,ob,es,ep,e,c⟩:=x;exact⟨z,y,xs,Ky.mapP r λp q z=>⟨z.1,ht _ _ z.2.1,z.2.2⟩,ob,es,ep,k _ _ (.inl rfl) e,c⟩
 |set S n=>obtain⟨ob,es,ep,t,e,c⟩:=x;exact⟨ob,es,ep,t,k _ _ (.inl rfl) e,c⟩
 |ins C dx fs=>obtain⟨d,z,ne,e,mA,⟨od,es,ep,e2,c⟩,r⟩:=x;exact⟨ho _ d,z,ne,k _ _ (.inl rfl) e,mA,⟨od,es,ep,k _ _ (.inr d) e2,c⟩,r⟩
 |own y=>obtain⟨ob,e⟩:=x;exact⟨ob,k _ _ (.inl rfl) e⟩
 |xd fs=>obtain⟨mA,⟨od,es,ep,e,c⟩,r⟩:=x;exact⟨mA,⟨od,es,ep,k _ _ (.inl rfl) e,c⟩,r⟩
 |rng lo hi=>obtain⟨t,u,v,e⟩:=x;exact⟨t,u,v,k _ _ (.inl rfl) e⟩
 |frz ob u ih=>obtain⟨e,q⟩:=x;exact⟨k _ _ (.inl rfl) e,ih q⟩
 |tbl ps=>obtain⟨qs,e,t,c⟩:=x;exact⟨qs,k a _ (.inl rfl) e,t,λp v q=>let ⟨c',oc,vs,tk,z1,z2,z3⟩:=c p v q;⟨c',oc,vs,tk,z1,hz _ _ _ z2,z3⟩⟩
 |met f y=>have e:h.get? a=some (Le (.ref f) (.ref y)):=x;show h'.get? a=some (Le (.ref f) (.ref y));exact k a _ (.inl rfl) e
 |ext φ=>obtain⟨p,⟨o,e⟩,st⟩:=x;exact⟨st _ _ p λo q=>k _ _ (.inl rfl) q,⟨o,k _ _ (.inl rfl) e⟩,st⟩
def lF.lt(x:lF P w H h)(e:H a=some o):a<h.objs.size:=(x a o e).lt
theorem lF.fresh(x:lF P w H h)(e:h.objs.size<=a):H a=none:=by
 cases q:H a with
 |none=>rfl
 |some u=>exact u3 (B3 (x.lt q) e) (Di _)
def lF.kept(x:lF P w H h)(k:∀b u,h.get? b=some u->h'.get? b=some u):lF P w H h':=λa o e=>(x a o e).stay (λb u _ q=>k b u q) (λ_ q=>q) (λ_ _ q=>q) λ_ _ _ q=>q
def lF.laid(x:lF P w H h)(k:∀b u,h.get? b=some u->h'.get? b=some u)(hp:h.objs.size<=a)(new:kX P w (upd H a o) h' a o):lF P w (upd H a o) h':=λb u e=>by
 have hn:=x.fresh hp;by_cases hb:b=a
 .subst hb;rw[w6]at e;cases e;exact new
 .rw[j3 hb]at e
  exact(x b u e).stay (λc v _ q=>k c v q) (λc q=>by rw[j3 (Z0 q hn)];exact q) (λc xs q=>by rw[j3 (Z0 q hn)];exact q) λc ob xs q=>by rw[j3 (Z0 q hn)];exact q
end
def Rd(H:Hp)(a:As)(u:HO):Prop:=H a=some u\/∃o,H a=some (.frz o u)
def Rd.of{H:Hp}{u:HO}(h:H a=some u):Rd H a u:=.inl h
def Rd.ok(r:Rd H a u)(x:lF P w H h):kX P w H h a u:=by
 rcases r with r|⟨o,r⟩
 .exact x a u r
 .obtain⟨_,q⟩:=x a _ r;exact q
def BL:Option HO->Prop
 |some (.lst _)=>True
 |some (.dK _)=>True
 |some (.dT _)=>True
 |some (.set _ _)=>True
 |some (.ins _ _ _)=>True
 |some (.ext _)=>True
 |_=>False
section
variable{P:Bs}{w:Ce}{H:Hp}{h h':Ch}{x e:As}{o':HO}
def lF.write(ok:lF P w H h)(mu:BL (H x))(he:e=x\/H e=some (.own x))(k:∀b u,b≠e->h.get? b=some u->h'.get? b=some u)(gU:∃u,h'.get? e=some u)(new:kX P w (upd H x o') h' x o'):lF P w (upd H x o') h':=λb u q=>by
 have iq:∀c y,H c=some (.own y)->c≠x:=λc y r z=>by subst z;rw[r]at mu;exact mu
 have ntup:∀c xs,H c=some (.tup xs)->c≠x:=λc xs r z=>by subst z;rw[r]at mu;exact mu
 have nfrz:∀c ob u,H c=some (.frz ob u)->c≠x:=λc ob u r z=>by subst z;rw[r]at mu;exact mu
 by_cases hb:b=x
 .subst hb;rw[w6]at q;cases q;exact new
 .rw[j3 hb]at q;by_cases fH:b=e
  .have q':H b=some (.own x):=by
    rcases he with z|z
    .exact u3 (fH.trans z) hb
    .rw[fH];exact z
   rw[q]at q';cases q';obtain⟨v,hv⟩:=gU;exact⟨v,by rw[fH];exact hv⟩
  .refine(ok b u q).stay (λc v hc r=>k c v ?_ r) (λc r=>by rw[j3 (iq c b r)];exact r) (λc xs r=>by rw[j3 (ntup c xs r)];exact r) λc ob xs r=>by rw[j3 (nfrz c ob xs r)];exact r
   rcases hc with rfl|hc
   .exact fH
   .rintro rfl;rcases he with z|z
    .exact iq c b hc z
    .rw[hc]at z;cases z;exact hb rfl
end
structure Un(fs ex:List As)(H H':Hp)(h h':Ch):Prop where
 keep:∀b o,h.get? b=some o->H b=none->b∉fs->b∉ex->h'.get? b=some o
 slot:∀b o,h.get? b=some o->H b=none->b∈fs->b∉ex->∃sl,h'.get? b=some { o with slots:=sl }
 free:∀b o,h.get? b=some o->H b=none->b∉ex->H' b=none
 there:∀b o,h.get? b=some o->b∉ex->∃o',h'.get? b=some o'
 tups:∀b xs,H b=some (.tup xs)->H' b=some (.tup xs)
 frzs:∀b o u,H b=some (.frz o u)->H' b=some (.frz o u)
 tbls:∀b ps,H b=some (.tbl ps)->∃more,H' b=some (.tbl (ps++more))
section
variable{fs fs' ex ex':List As}{H H1 H2:Hp}{h h1 h2 h':Ch}{a x e:As}{o:HO}
def Un.any(u:Un fs ex H H1 h h1){b:As}{ob:Ka}(q:h.get? b=some ob)(n:H b=none)(hx:b∉ex):∃sl,h1.get? b=some { ob with slots:=sl }:=by
 by_cases hb:b∈fs
 .exact u.slot b ob q n hb hx
 .exact⟨ob.slots,u.keep b ob q n hb hx⟩
def Un.kept(k:∀b u,h.get? b=some u->h'.get? b=some u):Un fs ex H H h h':=
 ⟨λb ob q _ _ _=>k b ob q,λb ob q _ _ _=>⟨ob.slots,k b ob q⟩,λ_ _ _ n _=>n,λb ob q _=>⟨ob,k b ob q⟩,λ_ _ q=>q,λ_ _ _ q=>q,λ_ ps q=>⟨#[],by rw[q];simp⟩⟩
def Un.refl:Un fs ex H H h h:=Un.kept λ_ _ q=>q
def Un.laid(k:∀b u,h.get? b=some u->h'.get? b=some u)(hp:h.objs.size<=a)(hn:H a=none):Un fs ex H (upd H a o) h h' where
 keep:=λb u q _ _ _=>k b u q
 slot:=λb u q _ _ _=>⟨u.slots,k b u q⟩
 free:=λb u q n _=>by rw[j3 (An (B3 (Aj q) hp))];exact n
 there:=λb u q _=>⟨u,k b u q⟩
 tups:=λb xs q=>by rw[j3 (Z0 q hn)];exact q
 frzs:=λb u xs q=>by rw[j3 (Z0 q hn)];exact q
 tbls:=λb ps q=>⟨#[],by rw[j3 (Z0 q hn),q];simp⟩
def Un.write(mu:BL (H x))(he:e=x\/H e=some (.own x))(k:∀b u,b≠e->h.get? b=some u->h'.get? b=some u)(gU:∃u,h'.get? e=some u):Un fs ex H (upd H x o) h h':=by
 have hx:∀b,H b=none->b≠x:=λb n z=>by subst z;rw[n]at mu;exact mu
 have hb:∀b,H b=none->b≠e:=λb n z=>by
  subst z;rcases he with r|r
  .exact hx b n r
  .rw[n]at r;cases r
 have hm:∀b u,H b=some u->¬BL (some u)->b≠x:=λb u q nm z=>by subst z;rw[q]at mu;exact nm mu
 refine⟨λb u q n _ _=>k b u (hb b n) q,λb u q n _ _=>⟨u.slots,k b u (hb b n) q⟩,λb u q n _=>by rw[j3 (hx b n)];exact n,λb u q _=>?_,
  λb xs q=>by rw[j3 (hm b _ q λz=>z)];exact q,λb u xs q=>by rw[j3 (hm b _ q λz=>z)];exact q,λb ps q=>⟨#[],by rw[j3 (hm b _ q λz=>z),q];simp⟩⟩
 by_cases fH:b=e
 .subst fH;exact gU
 .exact⟨u,k b u fH q⟩
def Un.mono(u:Un fs ex H H1 h h1)(hs:∀b∈fs,b∈fs')(hx:∀b∈ex,b∈ex'):Un fs' ex' H H1 h h1:=
 ⟨λb ob q n hb he=>u.keep b ob q n (λz=>hb (hs b z)) λz=>he (hx b z),λ_ _ q n _ he=>u.any q n λz=>he (hx _ z),λb ob q n he=>u.free b ob q n λz=>he (hx b z),λb ob q he=>u.there b ob q λz=>he (hx b z),u.tups,u.frzs,u.tbls⟩
end
def FX(h:Ch)(H:Hp):List As:=(Aa h.objs.size).filter λa=>(H a).isSome
def sS(h:Ch)(H:Hp):Ch:=PySem.W.hideAll h (FX h H)
def Yh(h:Ch)(H:Hp):(sS h H).objs.size=h.objs.size:=PySem.W.hideAll_size _ _
def Ϙ{h:Ch}{H:Hp}{b:As}{o:Ka}(e:h.get? b=some o)(n:H b=none):(sS h H).get? b=some o:=PySem.W.hideAll_get _ e λhm=>by have q:(H b).isSome=true:=(B7.mp hm).2;rw[n]at q;simp at q
theorem Ç{b:As}{o:Ka}(e:(sS h H).get? b=some o):h.get? b=some o/\H b=none:=by
 have e':h.get? b=some o:=PySem.W.of_hideAll (FX h H) e;refine⟨e',?_⟩
 cases q:H b with
 |none=>rfl
 |some x=>have hm:b∈FX h H:=B7.mpr ⟨Am.mpr (Aj e'),by simp[q]⟩;have z:(sS h H).get? b=none:=PySem.W.hideAll_none (FX h H) hm;rw[z]at e;cases e
def Ų(g h:Ch)(L:As):i6:=(Aa h.objs.size).filterMap λa=>if a=L\/(g.get? a).isSome=true then none else (h.get? a).map λo=>(a,o)
def rest(g h:Ch)(L d:As):i6:=(Ų g h L).filter λp=>decide (p.1≠d)
structure Mod(K:A5)(mg:Ba->Option A9)(base:Ch):Prop where
 kin:K.In base
 glob:base.Ns D9 mg
 blt:∃mb,base.Ns Il mb/\∀x:Ba,x≠"__name__"->mb x=Db x
 nolimit:base.NoLimit
 bm:∃bm ob,mg "__builtins__" = some (.ref bm)/\bm≠Il/\base.get? bm=some ob/\ob.cls = .type "module"/\ob.dict=some Il/\ob.data = .plain
structure Cx where
 prog:Bs
 w:Ce
 K:A5
 mg:Ba->Option A9
 base:Ch
 A:Bz
 N:List Ba
 s₀:Ae
 H₀:Hp
 env:O7
 outer:List O7
 stack:List O7
 ex:List As
 fn:Ba->Bool
 calm:Bool
 pn:i6
 xe:VP
def oT(l:List O7):List As:=l.filterMap (·.frame)
abbrev Cx.fs(X:Cx):List As:=oT X.outer
def mS(sc:Scope)(x:Ba):Prop:=sc.names.lookup x=some .local\/sc.names.lookup x=some .cell\/sc.names.lookup x=some .free
def m9(sc:Scope)(x:Ba):Prop:=sc.names.lookup x=some .local\/sc.names.lookup x=some .cell
def v3W(env:O7)(h:Ch)(m:Ba->Option A9)(x:Ba)(u:A9):Prop:=(env.kindOf x=some .local/\m x=some u)\/((env.kindOf x=some .cell\/env.kindOf x=some .free)/\∃c,env.cells.lookup x=some c/\h.IsCell c (some u))
structure Cx.Ok(X:Cx):Prop where
 mod:Mod X.K X.mg X.base
 kind:X.env.scope.kind = .function
 glob:X.env.globals=D9
 blt:X.env.builtins=Il
 above:X.s₀.heap.objs.size<=X.env.locals
 inj:∀x y c,X.env.cells.lookup x=some c->X.env.cells.lookup y=some c->x=y
 has:∀x,(X.env.kindOf x=some .cell\/X.env.kindOf x=some .free)->∃c,X.env.cells.lookup x=some c
 cab:∀x c,X.fn x=true->X.env.cells.lookup x=some c->X.s₀.heap.objs.size<=c
 hd:X.calm=true->X.A.handled=none
 frames:X.A.frames=some X.stack
 stk:X.stack=X.outer\/(X.stack=X.env::X.outer/\X.env.frame=some X.env.locals)
 exf:∀b∈X.ex,b≠X.env.locals/\∀x c,X.env.cells.lookup x=some c->c≠b
 bs:∀b o,X.base.get? b=some o->X.s₀.heap.get? b=some o/\X.H₀ b=none
 bsz:X.base.objs.size<=X.s₀.heap.objs.size
 noex:∀b o,X.base.get? b=some o->b∉X.ex
 exfs:∀b∈X.ex,b∉X.fs
 funs:X.s₀.heap.FunFrames X.base X.outer
 frf:∀b∈X.fs,X.H₀ b=none
structure a9(X:Cx)(aa:i6)(U:List (Option V))(H:Hp)(s:Ae):Prop where
 ok:X.Ok
 os:s.os=X.s₀.os
 bare:Ks s.gens
 base:Un X.fs X.ex X.H₀ H X.s₀.heap s.heap
 loc:∃m,s.heap.Ns X.env.locals m/\∀(i:Nat) (x:Ba) (v:V),X.N[i]?=some x->U[i]?=some (some v)->mS X.env.scope x->∃u,f9 v u/\v3W X.env s.heap m x u
 cell:∀x c,X.env.cells.lookup x=some c->∃v,s.heap.IsCell c v
 free:H X.env.locals=none
 freeC:∀x c,X.env.cells.lookup x=some c->H c=none
 pin:∀p∈X.pn++aa,s.heap.get? p.1=some p.2/\H p.1=none/\p.1≠X.env.locals/\p.1∉X.fs/\∀v,p.2.data≠.cell v
 hok:lF X.prog X.w H s.heap
 len:U.length=X.N.length
section
variable{X:Cx}{aa:i6}{U:List (Option V)}{H H':Hp}{s:Ae}{h':Ch}
def Cx.Ok.nofr(ok:X.Ok){b:As}{o:Ka}(e:X.base.get? b=some o):b∉X.fs:=λhb=>by
 have:=(ok.funs.mem hb).1
 rw[e]at this;cases this
def a9.bs(I:a9 X aa U H s):∀b o,X.base.get? b=some o->s.heap.get? b=some o/\H b=none:=λb o e=>
 ⟨I.base.keep b o (I.ok.bs b o e).1 (I.ok.bs b o e).2 (I.ok.nofr e) (I.ok.noex b o e),I.base.free b o (I.ok.bs b o e).1 (I.ok.bs b o e).2 (I.ok.noex b o e)⟩
def a9.bk(I:a9 X aa U H s):∀b o,X.base.get? b=some o->s.heap.get? b=some o:=λb o e=>(I.bs b o e).1
def a9.mod(I:a9 X aa U H s):Mod X.K X.mg X.base:=I.ok.mod
def a9.kIn(I:a9 X aa U H s):X.K.In s.heap:=I.ok.mod.kin.keeps I.bk
def a9.nolimit(I:a9 X aa U H s):s.heap.NoLimit:=I.ok.mod.nolimit.keeps I.bk
def a9.lt(I:a9 X aa U H s):X.env.locals<s.heap.objs.size:=let ⟨_,hn,_⟩:=I.loc;hn.lt
def a9.sz(I:a9 X aa U H s):X.s₀.heap.objs.size<=s.heap.objs.size:=C7 I.ok.above (Dc I.lt)
def a9.nofs(I:a9 X aa U H s){a:As}(h:s.heap.objs.size<=a):a∉X.fs:=λhb=>by obtain⟨_,o,ho,_⟩:=I.ok.funs.mem hb;exact u3 (B3 (Aj ho) (C7 I.sz h)) (Di _)
def a9.cne(I:a9 X aa U H s):∀x c,X.env.cells.lookup x=some c->c≠X.env.locals:=λx c e z=>by obtain⟨v,o,ho,hd⟩:=I.cell x c e;obtain⟨m,⟨o',es,ep,br,bS,_⟩,_⟩:=I.loc;rw[z,br]at ho;cases ho;rw[bS]at hd;cases hd
def a9.funs(I:a9 X aa U H s):s.heap.FunFrames X.base X.outer:=by
 have all:∀(l:List O7),(∀b∈oT l,b∈X.fs)->X.s₀.heap.FunFrames X.base l->s.heap.FunFrames X.base l:=by
  intro l
  induction l with
  |nil=>intro _ _;trivial
  |cons env r ih=>
   intro hs hl;obtain⟨hk,⟨L,o,hf,hn,ho,hd⟩,hr⟩:=hl;have hL:L∈X.fs:=hs L (by unfold oT;rw[Cs,hf];exact A6)
   obtain⟨sl,e⟩:=I.base.slot L o ho (I.ok.frf L hL) hL λz=>I.ok.exfs L z hL;exact⟨hk,⟨L,_,hf,hn,e,hd⟩,ih (λb hb=>hs b (by unfold oT;rw[Cs,hf];exact A7 _ hb)) hr⟩
 exact all X.outer (λ_ hb=>hb) I.ok.funs
def a9.stack(I:a9 X aa U H s):s.heap.FunFrames X.base X.stack:=by
 rcases I.ok.stk with e|⟨e,hf⟩
 .rw[e];exact I.funs
 .rw[e];obtain⟨m,hn,_⟩:=I.loc;refine .cons (by rw[I.ok.kind];decide) hf hn ?_ I.funs
  exact Ch.get?_none_of_le (C7 I.ok.bsz I.ok.above)
def a9.stkSub(I:a9 X aa U H s):∀b∈oT X.stack,b∈X.env.locals::X.fs:=λb hb=>by
 rcases I.ok.stk with e|⟨e,hf⟩
 .rw[e]at hb;exact A7 _ hb
 .rw[e]at hb;unfold oT at hb;rw[Cs,hf]at hb;exact hb
def a9.stkFree(I:a9 X aa U H s):∀b∈oT X.stack,H b=none:=λb hb=>by
 rcases Ac.mp (I.stkSub b hb) with e|hb
 .rw[e];exact I.free
 .obtain⟨_,o,ho,_⟩:=I.ok.funs.mem hb;exact I.base.free b o ho (I.ok.frf b hb) λz=>I.ok.exfs b z hb
def a9.stepN{t':Nat}{d':Drawn}{ch:List As}(I:a9 X aa U H s)(bI:∀b∈ch,(b∈X.ex\/X.s₀.heap.get? b=none)/\b≠X.env.locals/\(∀x c,X.env.cells.lookup x=some c->c≠b)/\∀p∈X.pn++aa,p.1≠b)(keep:∀b o,b≠X.env.locals->b∉X.fs->b∉ch->s.heap.get? b=some o->H b=none->h'.get? b=some o)(slot:∀b o,b≠X.env.locals->b∈X.fs->b∉ch->s.heap.get? b=some o->H b=none->∃sl,h'.get? b=some { o with slots:=sl })(free:∀b o,b∉ch->s.heap.get? b=some o->H b=none->H' b=none)(there:∀b o,b∉ch->s.heap.get? b=some o->∃o',h'.get? b=some o')(tups:∀b xs,H b=some (.tup xs)->H' b=some (.tup xs))(frzs:∀b o u,H b=some (.frz o u)->H' b=some (.frz o u))(tbls:∀b ps,H b=some (.tbl ps)->∃more,H' b=some (.tbl (ps++more)))(ns:∀m,s.heap.Ns X.env.locals m->h'.Ns X.env.locals m)(hok:lF X.prog X.w H' h')(hg:Ks g'):
  a9 X aa U H' { s with heap:=h',gens:=g',drawn:=d',toks:=t' }:=by
 have neL:∀b o,X.s₀.heap.get? b=some o->b≠X.env.locals:=λb o e=>An (B3 (Aj e) I.ok.above)
 have dZ:∀b o,X.s₀.heap.get? b=some o->b∉X.ex->b∉ch:=λb o e hx hb=>by
  rcases (bI b hb).1 with z|z
  .exact hx z
  .rw[z]at e;cases e
 have fG:∀x c,X.env.cells.lookup x=some c->∀v,s.heap.IsCell c v->h'.IsCell c v:=λx c e v h_=>by
  obtain⟨o,ho,hd⟩:=h_;have fu:c∉ch:=λz=>(bI c z).2.2.1 x c e rfl;by_cases hc:c∈X.fs
  .obtain⟨sl,q⟩:=slot c o (I.cne x c e) hc fu ho (I.freeC x c e);exact⟨_,q,hd⟩
  .exact⟨o,keep c o (I.cne x c e) hc fu ho (I.freeC x c e),hd⟩
 refine⟨I.ok,I.os,hg,⟨λb o e n hb hx=>?_,λb o e n hb hx=>?_,λb o e n hx=>?_,λb o e hx=>?_,λb xs e=>tups b xs (I.base.tups b xs e),λb o xs e=>frzs b o xs (I.base.frzs b o xs e),λb ps e=>?_⟩,?_,λx c e=>?_,?_,λx c e=>?_,λp hp=>?_,hok,I.len⟩
 .exact keep b o (neL b o e) hb (dZ b o e hx) (I.base.keep b o e n hb hx) (I.base.free b o e n hx)
 .obtain⟨sl,e1⟩:=I.base.slot b o e n hb hx;obtain⟨sl',e2⟩:=slot b _ (neL b o e) hb (dZ b o e hx) e1 (I.base.free b o e n hx);exact⟨sl',e2⟩
 .obtain⟨o',e1⟩:=I.base.there b o e hx;exact free b o' (dZ b o e hx) e1 (I.base.free b o e n hx)
 .obtain⟨o',e1⟩:=I.base.there b o e hx;exact there b o' (dZ b o e hx) e1
 .obtain⟨m1,e1⟩:=I.base.tbls b ps e;obtain⟨m2,e2⟩:=tbls b _ e1;exact⟨m1++m2,by rw[e2,Array.append_assoc]⟩
 .obtain⟨m,hn,hl⟩:=I.loc;refine⟨m,ns m hn,λi x v e1 e2 e3=>?_⟩;obtain⟨u,r,l⟩:=hl i x v e1 e2 e3;refine⟨u,r,?_⟩;rcases l with l|⟨k,c,e,z⟩
  .exact .inl l
  .exact .inr ⟨k,c,e,fG x c e _ z⟩
 .obtain⟨v,z⟩:=I.cell x c e;exact⟨v,fG x c e v z⟩
 .obtain⟨m,⟨o,_,_,ho,_⟩,_⟩:=I.loc;exact free _ o (λz=>(bI _ z).2.1 rfl) ho I.free
 .obtain⟨v,o,ho,hd⟩:=I.cell x c e;exact free c o (λz=>(bI c z).2.2.1 x c e rfl) ho (I.freeC x c e)
 .obtain⟨e,n,ne,nf,d⟩:=I.pin p hp;have fu:p.1∉ch:=λz=>(bI p.1 z).2.2.2 p hp rfl;exact⟨keep p.1 p.2 ne nf fu e n,free p.1 p.2 fu e n,ne,nf,d⟩
def a9.step{t':Nat}{d':Drawn}{ch:List As}(I:a9 X aa U H s)(bI:∀b∈ch,(b∈X.ex\/X.s₀.heap.objs.size<=b)/\b≠X.env.locals/\(∀x c,X.env.cells.lookup x=some c->c≠b)/\∀p∈X.pn++aa,p.1≠b)(keep:∀b o,b≠X.env.locals->b∉X.fs->b∉ch->s.heap.get? b=some o->H b=none->h'.get? b=some o)(slot:∀b o,b≠X.env.locals->b∈X.fs->b∉ch->s.heap.get? b=some o->H b=none->∃sl,h'.get? b=some { o with slots:=sl })(free:∀b o,b∉ch->s.heap.get? b=some o->H b=none->H' b=none)(there:∀b o,b∉ch->s.heap.get? b=some o->∃o',h'.get? b=some o')(tups:∀b xs,H b=some (.tup xs)->H' b=some (.tup xs))(frzs:∀b o u,H b=some (.frz o u)->H' b=some (.frz o u))(tbls:∀b ps,H b=some (.tbl ps)->∃more,H' b=some (.tbl (ps++more)))(ns:∀m,s.heap.Ns X.env.locals m->h'.Ns X.env.locals m)(hok:lF X.prog X.w H' h')(hg:Ks g'):
  a9 X aa U H' { s with heap:=h',gens:=g',drawn:=d',toks:=t' }:=
 I.stepN (λb hb=>⟨(bI b hb).1.imp id λz=>Ch.get?_none_of_le z,(bI b hb).2⟩) keep slot free there tups frzs tbls ns hok hg
def a9.un{t':Nat}(I:a9 X aa U H s)(u:Un X.fs [] H H' s.heap h')(hok:lF X.prog X.w H' h'):a9 X aa U H' { s with heap:=h',toks:=t' }:=by
 obtain⟨m,⟨o,es,ep,ho,r⟩,_⟩:=id I.loc;obtain⟨sl,hL⟩:=u.any ho I.free (by simp)
 exact I.step (g':=s.gens) (d':=s.drawn) (ch:=[]) (λ_ z=>nomatch z) (λb o _ hb _ e n=>u.keep b o e n hb (by simp)) (λb o _ hb _ e n=>u.slot b o e n hb (by simp)) (λb o _ e n=>u.free b o e n (by simp)) (λb o _ e=>u.there b o e (by simp)) u.tups u.frzs u.tbls (λm' hm=>by
  obtain⟨o',cD,dF,br,r'⟩:=hm;rw[ho]at br;cases br
  exact⟨_,cD,dF,hL,r'⟩) hok I.bare
def a9.call{t':Nat}{d':Drawn}(I:a9 X aa U H s)(u:Un (oT X.stack) ch H H' s.heap h')(hok:lF X.prog X.w H' h')(hg:Ks g')(bI:∀b∈ch,(b∈X.ex\/X.s₀.heap.objs.size<=b)/\b≠X.env.locals/\(∀x c,X.env.cells.lookup x=some c->c≠b)/\∀p∈X.pn++aa,p.1≠b):
  a9 X aa U H' { s with heap:=h',gens:=g',drawn:=d',toks:=t' }:=by
 obtain⟨m,⟨o,es,ep,ho,r⟩,_⟩:=id I.loc;obtain⟨sl,hL⟩:=u.any ho I.free λz=>(bI _ z).2.1 rfl
 exact I.step (ch:=ch) bI (λb o hL hb hc e n=>u.keep b o e n (λz=>(Ac.mp (I.stkSub b z)).elim hL hb) hc) (λb o _ _ hc e n=>u.any e n hc) (λb o hc e n=>u.free b o e n hc) (λb o hc e=>u.there b o e hc) u.tups u.frzs u.tbls (λm' hm=>by
  obtain⟨o',cD,dF,br,r'⟩:=hm;rw[ho]at br;cases br
  exact⟨_,cD,dF,hL,r'⟩) hok hg
def a9.turned{t':Nat}{it:As}(I:a9 X aa U H s)(k:∀b o,b≠it->s.heap.get? b=some o->h'.get? b=some o)(hn:H it=none)(hL:it≠X.env.locals)(h1:it∈X.ex\/X.s₀.heap.objs.size<=it)(h2:∀x c,X.env.cells.lookup x=some c->c≠it)(h3:∀p∈X.pn++aa,p.1≠it):a9 X aa U H { s with heap:=h',toks:=t' }:=by
 have nit:∀b u,H b=some u->b≠it:=λb u e z=>by rw[z,hn]at e;cases e
 refine I.step (g':=s.gens) (d':=s.drawn) (ch:=[it]) (λb hb=>?_) (λb o _ _ hc e _=>k b o (λz=>hc (by simp[z])) e) (λb o _ _ hc e _=>⟨o.slots,k b o (λz=>hc (by simp[z])) e⟩) (λ_ _ _ _ n=>n)
  (λb o hc e=>⟨o,k b o (λz=>hc (by simp[z])) e⟩) (λ_ _ e=>e) (λ_ _ _ e=>e) (λb ps e=>⟨#[],by rw[e];simp⟩) (λm hm=>?_) (λb u e=>?_) I.bare
 .have e:b=it:=by simpa using hb
  subst e;exact⟨h1,hL,h2,h3⟩
 .obtain⟨o,es,ep,ho,r⟩:=hm;exact⟨o,es,ep,k _ o (Cz hL) ho,r⟩
 .refine(I.hok b u e).stay (λc v hc q=>k c v ?_ q) (λ_ q=>q) (λ_ _ q=>q) λ_ _ _ q=>q;rcases hc with z|z
  .rw[z];exact nit b u e
  .exact nit c _ z
def a9.tok(I:a9 X aa U H s)(t:Nat):a9 X aa U H { s with toks:=t }:=I.un (h':=s.heap) (t':=t) Un.refl I.hok
def a9.kept{t':Nat}(I:a9 X aa U H s)(k:∀b u,s.heap.get? b=some u->h'.get? b=some u):a9 X aa U H { s with heap:=h',toks:=t' }:=I.un (Un.kept k) (I.hok.kept k)
def a9.laid{a:As}{t':Nat}(I:a9 X aa U H s)(k:∀b u,s.heap.get? b=some u->h'.get? b=some u)(hp:s.heap.objs.size<=a)(new:kX X.prog X.w (upd H a o) h' a o):
  a9 X aa U (upd H a o) { s with heap:=h',toks:=t' }:=I.un (Un.laid k hp (I.hok.fresh hp)) (I.hok.laid k hp new)
def a9.write{x e:As}{t':Nat}(I:a9 X aa U H s)(mu:BL (H x))(he:e=x\/H e=some (.own x))(k:∀b u,b≠e->s.heap.get? b=some u->h'.get? b=some u)(gU:∃u,h'.get? e=some u)(new:kX X.prog X.w (upd H x o) h' x o):a9 X aa U (upd H x o) { s with heap:=h',toks:=t' }:=I.un (Un.write mu he k gU) (I.hok.write mu he k gU new)
def a9.pins_of{eY:i6}(I:a9 X aa U H s)(h:∀p∈eY,s.heap.get? p.1=some p.2/\H p.1=none/\p.1≠X.env.locals/\p.1∉X.fs/\∀v,p.2.data≠.cell v):a9 X eY U H s:=
 ⟨I.ok,I.os,I.bare,I.base,I.loc,I.cell,I.free,I.freeC,λp hp=>(Az.mp hp).elim (λz=>I.pin p (Bn _ z)) (h p),I.hok,I.len⟩
def SY{N:List Ba}(hN:N.Nodup){i j:Nat}{x:Ba}(a:N[i]?=some x)(b:N[j]?=some x):i=j:=by obtain⟨h1,e1⟩:=B0.mp a;obtain⟨h2,e2⟩:=B0.mp b;exact(List.getElem_inj hN).mp (e1.trans e2.symm)
def PQ{i:Nat}{x:Ba}{Q:Unit->Ae->Prop}(I:a9 X aa U H s)(hN:X.N.Nodup)(hi:X.N[i]?=some x)(hx:m9 X.env.scope x)(r:f9 v u)(h:∀s',a9 X aa (U.set i (some v)) H s'->(∃a,Dd a s.heap s'.heap/\(a=X.env.locals\/X.env.cells.lookup x=some a))->Q () s')(hf:X.fn x=true\/X.env.scope.names.lookup x=some .local:=by first|exact .inl rfl|exact .inr rfl|assumption):Ah M A (storeName X.env x u) Q E s:=by
 obtain⟨m,hn,hl⟩:=id I.loc
 have hcls:(X.env.scope.kind==.class||(X.env.scope.kind==.module&&X.env.locals != X.env.globals))=false:=by rw[I.ok.kind];rfl
 have hiσ:i<U.length:=by rw[I.len];exact(B0.mp hi).1
 have cne:=I.cne
 have cL:∀{a:As} {h':Ch},(∃o,s.heap.get? a=some o/\H a=none)->Dd a s.heap h'->lF X.prog X.w H h':=λ{a h'} ha hs b ob e=>by
  obtain⟨_,_,bt⟩:=ha;refine(I.hok b ob e).stay (λc w' hc q=>(hs.2 c ?_).trans q) (λ_ q=>q) (λ_ _ q=>q) λ_ _ _ q=>q;rintro rfl;rcases hc with rfl|hc
  .rw[bt]at e;cases e
  .rw[bt]at hc;cases hc
 rcases hx with hk|hk
 .refine wpAny_storeName_local hk hn (λh' bB hs=>?_) hcls;obtain⟨oL,_,_,hoL,_⟩:=id hn;refine h _ ⟨I.ok,I.os,I.bare,⟨λb o e n hb hx=>?_,λb o e n hb hx=>?_,I.base.free,λb o e hx=>?_,I.base.tups,I.base.frzs,I.base.tbls⟩,⟨_,bB,λj y v' e1 e2 e3=>?_⟩,λy c e=>?_,I.free,I.freeC,λp hp=>?_,cL ⟨oL,hoL,I.free⟩ hs,by simpa using I.len⟩ ⟨_,hs,.inl rfl⟩
  .exact(hs.2 b (An (B3 (Aj e) I.ok.above))).trans (I.base.keep b o e n hb hx)
  .obtain⟨sl,e1⟩:=I.base.slot b o e n hb hx;exact⟨sl,(hs.2 b (An (B3 (Aj e) I.ok.above))).trans e1⟩
  .obtain⟨o',e1⟩:=I.base.there b o e hx;exact⟨o',(hs.2 b (An (B3 (Aj e) I.ok.above))).trans e1⟩
  .by_cases hj:j=i
   .subst hj;rw[hi]at e1;cases e1;rw[Ck hiσ]at e2;cases e2;exact⟨u,r,.inl ⟨hk,by simp⟩⟩
   .rw[Bb (Cz hj)]at e2;obtain⟨u',r',q⟩:=hl j y v' e1 e2 e3;refine⟨u',r',?_⟩;rcases q with⟨k,e⟩|⟨k,c,e,z⟩
    .refine .inl ⟨k,?_⟩
     have:y≠x:=λe=>hj (SY hN e1 (e▸hi))
     simp[this,e]
    .exact .inr ⟨k,c,e,z.sameBut hs (cne y c e)⟩
  .obtain⟨w',z⟩:=I.cell y c e;exact⟨w',z.sameBut hs (cne y c e)⟩
  .obtain⟨e,n,ne,nf,d⟩:=I.pin p hp;exact⟨(hs.2 p.1 ne).trans e,n,ne,nf,d⟩
 .have hfn:X.fn x=true:=by
   rcases hf with z|z
   .exact z
   .rw[z]at hk;cases hk
  obtain⟨c,hc⟩:=I.ok.has x (.inl hk);obtain⟨w',z⟩:=I.cell x c hc;refine wpAny_storeName_cell I.ok.kind hk hc z (λh' bN hs=>?_);obtain⟨oc,gf,hocd⟩:=id z;refine h { s with heap:=h' } ⟨I.ok,I.os,I.bare,⟨λb o e n hb hx=>?_,λb o e n hb hx=>?_,I.base.free,λb o e hx=>?_,I.base.tups,I.base.frzs,I.base.tbls⟩,⟨m,hn.sameBut hs (Cz (cne x c hc)),λj y v' e1 e2 e3=>?_⟩,λy c' e=>?_,I.free,I.freeC,λp hp=>?_,cL ⟨oc,gf,I.freeC x c hc⟩ hs,by simpa using I.len⟩ ⟨c,hs,.inr hc⟩
  .exact(hs.2 b (An (B3 (Aj e) (I.ok.cab x c hfn hc)))).trans (I.base.keep b o e n hb hx)
  .obtain⟨sl,e1⟩:=I.base.slot b o e n hb hx;exact⟨sl,(hs.2 b (An (B3 (Aj e) (I.ok.cab x c hfn hc)))).trans e1⟩
  .obtain⟨o',e1⟩:=I.base.there b o e hx;exact⟨o',(hs.2 b (An (B3 (Aj e) (I.ok.cab x c hfn hc)))).trans e1⟩
  .by_cases hj:j=i
   .subst hj;rw[hi]at e1;cases e1;rw[Ck hiσ]at e2;cases e2;exact⟨u,r,.inr ⟨.inl hk,c,hc,bN⟩⟩
   .rw[Bb (Cz hj)]at e2;obtain⟨u',r',q⟩:=hl j y v' e1 e2 e3;refine⟨u',r',?_⟩;rcases q with q|⟨k,c',e,z'⟩
    .exact .inl q
    .refine .inr ⟨k,c',e,z'.sameBut hs ?_⟩;rintro rfl;exact hj (SY hN e1 (I.ok.inj _ _ _ e hc▸hi))
  .by_cases hcc:c'=c
   .subst hcc;exact⟨_,bN⟩
   .obtain⟨w2,z2⟩:=I.cell y c' e;exact⟨w2,z2.sameBut hs hcc⟩
  .obtain⟨e,n,ne,nf,d⟩:=I.pin p hp;refine⟨(hs.2 p.1 ?_).trans e,n,ne,nf,d⟩;intro q;rw[q,gf]at e;have q':oc=p.2:=Bi e;exact d w' (by rw[<-q'];exact hocd)
def JO{i:Nat}{x:Ba}{Q:Unit->Ae->Prop}(I:a9 X aa U H s)(hN:X.N.Nodup)(hi:X.N[i]?=some x)(hx:m9 X.env.scope x)(r:f9 v u)(h:∀s',a9 X aa (U.set i (some v)) H s'->Q () s')(hf:X.fn x=true\/X.env.scope.names.lookup x=some .local:=by first|exact .inl rfl|exact .inr rfl|assumption):Ah M A (storeName X.env x u) Q E s:=PQ I hN hi hx r (λs' I' _=>h s' I') hf
def a9.call'{s':Ae}(I:a9 X aa U H s)(ho:s'.os=s.os)(u:Un (oT X.stack) ch H H' s.heap s'.heap)(hok:lF X.prog X.w H' s'.heap)(hg:Ks s'.gens)(bI:∀b∈ch,(b∈X.ex\/X.s₀.heap.objs.size<=b)/\b≠X.env.locals/\(∀x c,X.env.cells.lookup x=some c->c≠b)/\∀p∈X.pn++aa,p.1≠b):a9 X aa U H' s':=by obtain⟨h',g',d',t',o'⟩:=s';have e:o'=s.os:=ho;subst e;exact I.call (g':=g') (t':=t') (d':=d') u hok hg bI
end
abbrev XK:=A9->Option As->Hp->Prop
abbrev St:=List (Option V)
abbrev VK:=V->Hp->Prop
abbrev TE:=St->Hp->VK->Prop
abbrev TT:=St->Hp->(Bool->Hp->Prop)->Prop
abbrev TA:=St->Hp->(List V->Hp->Prop)->Prop
structure qR where
 nx:St->Hp->Prop
 rt:VK
 bk:St->Hp->Prop:=λ_ _=>False
 ct:St->Hp->Prop:=λ_ _=>False
abbrev TS:=qR->St->Hp->Prop
def EP(X:Cx)(aa:i6)(U:St)(Q:VK)(u:A9)(s':Ae):Prop:=∃v H',a9 X aa U H' s'/\f9 v u/\Q v H'
def TP(X:Cx)(aa:i6)(U:St)(Q:Bool->Hp->Prop)(b:Bool)(s':Ae):Prop:=∃H',a9 X aa U H' s'/\Q b H'
def AP(X:Cx)(aa:i6)(U:St)(Q:List V->Hp->Prop)(us:List A9)(s':Ae):Prop:=∃vs H',a9 X aa U H' s'/\Y4 vs us/\Q vs H'
def SP(X:Cx)(aa:i6)(D:qR)(f:Flow)(s':Ae):Prop:=
 match f with
 | .next=>∃U' H',a9 X aa U' H' s'/\D.nx U' H'
 | .brk=>∃U' H',a9 X aa U' H' s'/\D.bk U' H'
 | .cont=>∃U' H',a9 X aa U' H' s'/\D.ct U' H'
 | .ret u=>∃v U' H',a9 X aa U' H' s'/\f9 v u/\D.rt v H'
def PE(X:Cx)(e:Expr)(t:TE):Prop:=∀(aa:i6) (s:Ae) (U:St) (H:Hp) (Q:VK),a9 X aa U H s->t U H Q->Ah (Aw X.prog X.w) X.A (Ec e X.env) (EP X aa U Q) X.xe s
def PT(X:Cx)(e:Expr)(t:TT):Prop:=∀(aa:i6) (s:Ae) (U:St) (H:Hp) (Q:Bool->Hp->Prop),a9 X aa U H s->t U H Q->Ah (Aw X.prog X.w) X.A (isTrue e X.env (Ec e X.env)) (TP X aa U Q) X.xe s
def PW(X:Cx)(e:Expr)(t:TT):Prop:=∀(aK:Sem A9) (aa:i6) (s:Ae) (U:St) (H:Hp) (Q:Bool->Hp->Prop),a9 X aa U H s->t U H Q->Ah (Aw X.prog X.w) X.A (isTrue e X.env aK) (TP X aa U Q) X.xe s
def PW.pt(h:PW X e t):PT X e t:=h _
def PA(X:Cx)(es:List Expr)(t:TA):Prop:=∀(pos:Hi) (aa:i6) (s:Ae) (U:St) (H:Hp) (Q:List V->Hp->Prop),a9 X aa U H s->t U H Q->Ah (Aw X.prog X.w) X.A (spliced (F0 pos (Bt es X.env))) (AP X aa U Q) X.xe s
def PS(X:Cx)(st:Dl)(t:TS):Prop:=∀(aa:i6) (s:Ae) (U:St) (H:Hp) (D:qR),a9 X aa U H s->t D U H->Ah (Aw X.prog X.w) X.A (exec st X.env) (SP X aa D) X.xe s
def nI(X:Cx)(st:List Dl)(t:TS):Prop:=∀(aa:i6) (s:Ae) (U:St) (H:Hp) (D:qR),a9 X aa U H s->t D U H->Ah (Aw X.prog X.w) X.A (execs st X.env) (SP X aa D) X.xe s
def kY{α:Type}{t:Sem α}{Q Q':α->Ae->Prop}{M:Model}{A:Bz}{E:VP}{s:Ae}(h:Ah M A t Q E s)(hQ:∀a s,Q a s->Q' a s):Ah M A t Q' E s:=Cm h hQ λ_ _ x=>x
def jK{α β γ:Type}{t:Sem α}{I:γ->Ae->Prop}{R:β->α->Prop}{Q:β->γ->Prop}{Q':α->Ae->Prop}{M:Model}{A:Bz}{E:VP}{s:Ae}(h:Ah M A t (λu s'=>∃v H',I H' s'/\R v u/\Q v H') E s)(k:∀a s v H',I H' s->R v a->Q v H'->Q' a s):Ah M A t Q' E s:=Cm h (λa s h=>by
 obtain⟨v,H',x,y,z⟩:=h
 exact k a s v H' x y z) λ_ _ x=>x
section
variable{X:Cx}
def AZ(i:Nat):TE:=λU H Q=>∃v,U[i]?=some (some v)/\Q v H
def tC(v:V):TE:=λ_ H Q=>Q v H
def nW{i:Nat}{x:Ba}(hN:X.N[i]?=some x)(hv:mS X.env.scope x)(hd:(x==("__debug__":Ba))=false:=by decide)(aO:(x==("__classdict__":Ba))=false:=by decide):PE X (.Name x pos) (AZ i):=by
 intro aa s U H Q I h;obtain⟨v,e,h⟩:=h;obtain⟨m,hn,hl⟩:=I.loc;obtain⟨u,r,l⟩:=hl i x v hN e hv;have fin:EP X aa U Q u s:=⟨v,H,I,r,h⟩;rcases l with⟨hk,hm⟩|⟨hk,c,hc,ay⟩
 .exact Oh (wpAny_loadName_local I.ok.kind hk hn hm fin) hd
 .rcases hk with hk|hk
  .exact Oh (wpAny_loadName_cell I.ok.kind hk hc ay fin) hd
  .exact Oh (wpAny_loadName_free I.ok.kind hk hc ay fin aO) hd
def Ņ{i j pos}:PE X (.Constant (.int i) j pos) (tC (.int i)):=λ_ _ _ H _ I h=>wpAny_Constant_int ⟨.int i,H,I.tok _,⟨_,rfl⟩,h⟩
def v1R{b j pos}:PE X (.Constant (.bool b) j pos) (tC (.bl b)):=λ_ _ _ H _ I h=>Constant_bool ⟨.bl b,H,I,rfl,h⟩
def ņ{j pos}:PE X (.Constant .none j pos) (tC .non):=λ_ _ _ H _ I h=>Constant_none ⟨.non,H,I,rfl,h⟩
def ŉ{x j pos}:PE X (.Constant (.str x) j pos) (tC (.str x)):=λ_ _ _ H _ I h=>Calls.Constant_str ⟨.str x,H,I.tok _,⟨_,rfl⟩,h⟩
def Gl(X:Cx)(x:Ba):Prop:=X.env.kindOf x=some .globalImplicit
def Rw{u:A9}{Q:VP}(I:a9 X aa U H s)(hg:Gl X x)(hm:X.mg x=some u)(h:Q u s)(hd:(x==("__debug__":Ba))=false:=by decide):Ah (Aw X.prog X.w) X.A (Ec (.Name x pos) X.env) Q E s:=Calls.Name_function_global I.ok.kind hg (Calls.loadGlobal_global (by rw[I.ok.glob];exact I.mod.glob.keeps I.bk) hm h) hd
def pN{u:A9}{Q:VP}(I:a9 X aa U H s)(hg:Gl X x)(hm:X.mg x=none)(hv:Db x=some u)(h:Q u s)(hn:x≠"__name__":=by decide)(hd:(x==("__debug__":Ba))=false:=by decide):Ah (Aw X.prog X.w) X.A (Ec (.Name x pos) X.env) Q E s:=by obtain⟨mb,h1,h2⟩:=I.mod.blt;exact Calls.Name_function_global I.ok.kind hg (Calls.loadGlobal_builtin (by rw[I.ok.glob];exact I.mod.glob.keeps I.bk) hm (by rw[I.ok.blt];exact h1.keeps I.bk) ((h2 x hn).trans hv) h) hd
def Ï{u:A9}(hg:Gl X x)(hm:X.mg x=some u)(r:f9 v u)(hd:(x==("__debug__":Ba))=false:=by decide):PE X (.Name x pos) (tC v):=λ_ _ _ H _ I h=>Rw I hg hm ⟨v,H,I,r,h⟩ hd
variable{a b:Expr}{ta tb:TE}{pos:Hi}
def PC(X:Cx)(op:Oi)(a b:Expr)(t:TE):Prop:=
 ∀(aa:i6) (s:Ae) (U:St) (H:Hp) (Q:VK),a9 X aa U H s->t U H Q ->
  Ah (Aw X.prog X.w) X.A (Ec a X.env) (λv s₁=>Ah (Aw X.prog X.w) X.A (Ec b X.env) (λu s₂=>Ah (Aw X.prog X.w) X.A (De op v u) (EP X aa U Q) X.xe s₂) X.xe s₁) X.xe s
def tB(t:TE):TT:=λU H Q=>t U H λx H1=>∃c,x = .bl c/\Q c H1
def LB(h:PC X op a b t)(h1:Dj op b=false:=by first|exact nobehind _ ∅ ∅|rfl):PT X (.Compare a [op] [b] pos) (tB t):=by intro aa s U H Q I hw;refine wpAny_isTrue_Compare1 (kY (h aa s U H _ I hw) λv s1 h1=>kY h1 λu s2 h2=>kY h2 λc s3 ⟨x,H1,I1,r1,q1⟩=>?_) h1;obtain⟨d,rfl,q⟩:=q1;cases r1;exact Dk ⟨H1,I1,q⟩
def Œ(h:PE X e t)(he:∀aK,isTrue e X.env aK=(do let v <-aK;Lf e.pos;Hs [v] (Oj v)):=by intro _;rfl):PT X e (tB t):=by intro aa s U H Q I hw;refine isTrue_plain (jK (h aa s U H _ I hw) λv s1 x H1 I1 r1 q1=>?_) (he _);obtain⟨d,rfl,q⟩:=q1;cases r1;exact Dk ⟨H1,I1,q⟩
variable{tA tB':TT}{rest:List Expr}
def v3G(t u:TT):TT:=λU H Q=>t U H λc H1=>if c=true then u U H1 Q else Q false H1
def tOr(t u:TT):TT:=λU H Q=>t U H λc H1=>if c=true then Q true H1 else u U H1 Q
def v3C(t:TT):TT:=λU H Q=>t U H λc H1=>Q (!c) H1
theorem Õ(ha:PT X a tA):PW X (.BoolOp .And [a] pos) tA:=by
 intro wh aa s U H Q I h;refine isTrue_and (kY (ha aa s U H Q I h) λc s1 e=>?_)
 cases c with
 |true=>exact isTrue_and_nil e
 |false=>exact e
theorem Ŗ(ha:PT X a tA):PW X (.BoolOp .Or [a] pos) tA:=by
 intro wh aa s U H Q I h;refine isTrue_or (kY (ha aa s U H Q I h) λc s1 e=>?_)
 cases c with
 |false=>exact isTrue_or_nil e
 |true=>exact e
theorem ŕ(ha:PT X a tA)(hb:PW X (.BoolOp .And (b::rest) pos) tB'):PW X (.BoolOp .And (a::b::rest) pos) (v3G tA tB'):=by
 intro wh aa s U H Q I h;refine isTrue_and (kY (ha aa s U H _ I h) λc s1 ⟨H1,I1,q1⟩=>?_)
 cases c with
 |true=>exact hb wh aa s1 U H1 Q I1 q1
 |false=>exact⟨H1,I1,q1⟩
theorem v1N(ha:PT X a tA)(hb:PW X (.BoolOp .Or (b::rest) pos) tB'):PW X (.BoolOp .Or (a::b::rest) pos) (tOr tA tB'):=by
 intro wh aa s U H Q I h;refine isTrue_or (kY (ha aa s U H _ I h) λc s1 ⟨H1,I1,q1⟩=>?_)
 cases c with
 |true=>exact⟨H1,I1,q1⟩
 |false=>exact hb wh aa s1 U H1 Q I1 q1
def ő(ha:PT X a tA):PT X (.UnaryOp .Not a pos) (v3C tA):=by intro aa s U H Q I h;exact isTrue_not (ha aa s U H (λc H1=>Q (!c) H1) I h)
def v1A(ta tb:TE):TE:=λU H Q=>ta U H λx H1=>∃c,x = .bl c/\if c=true then tb U H1 Q else Q (.bl false) H1
def v3B(ta tb:TE):TE:=λU H Q=>ta U H λx H1=>∃c,x = .bl c/\if c=true then Q (.bl true) H1 else tb U H1 Q
def Ň{op}(h:PE X a t):PE X (.BoolOp op [a] pos) t:=λaa s U H Q I hw=>BoolOp_one (h aa s U H Q I hw)
theorem Ń(ha:PE X a ta)(hb:PE X (.BoolOp .And (b::rest) pos) tb):PE X (.BoolOp .And (a::b::rest) pos) (v1A ta tb):=by
 intro aa s U H Q I h;refine BoolOp_and (jK (ha aa s U H _ I h) λv s1 x H1 I1 r1 q1=>?_);obtain⟨c,rfl,q1⟩:=q1;cases r1;refine Dk ?_
 cases c with
 |true=>exact hb aa s1 U H1 Q I1 q1
 |false=>exact⟨.bl false,H1,I1,rfl,q1⟩
theorem pe_or(ha:PE X a ta)(hb:PE X (.BoolOp .Or (b::rest) pos) tb):PE X (.BoolOp .Or (a::b::rest) pos) (v3B ta tb):=by
 intro aa s U H Q I h;refine BoolOp_or (jK (ha aa s U H _ I h) λv s1 x H1 I1 r1 q1=>?_);obtain⟨c,rfl,q1⟩:=q1;cases r1;refine Dk ?_
 cases c with
 |false=>exact hb aa s1 U H1 Q I1 q1
 |true=>exact⟨.bl true,H1,I1,rfl,q1⟩
def tIf(t:TT)(ta tb:TE):TE:=λU H Q=>t U H λc H1=>if c=true then ta U H1 Q else tb U H1 Q
theorem ϯ(hc:PT X c tA)(ha:PE X a ta)(hb:PE X b tb):PE X (.IfExp c a b pos) (tIf tA ta tb):=by
 intro aa s U H Q I h;refine wpAny_IfExp (kY (hc aa s U H _ I h) λd s1 ⟨H1,I1,q1⟩=>?_)
 cases d with
 |true=>exact ha aa s1 U H1 Q I1 q1
 |false=>exact hb aa s1 U H1 Q I1 q1
end
def i7(K:A5)(H:Hp)(a:As)(xs:List V):Prop:=
 Rd H a (.lst xs) \/
  ∃(o:Ka) (its:Array A9) (n:Nat),K.lookup a=some o/\o.cls = .type "list"/\o.dict=none/\o.data = .seq its n/\its.size<=sizeLine/\Y4 xs its.toList
def i8(K:A5)(H:Hp)(a:As)(xs:List V):Prop:=
 Rd H a (.tup xs) \/
  ∃(o:Ka) (its:Array A9) (n:Nat),K.lookup a=some o/\o.cls = .type "tuple"/\o.data = .seq its n/\its.size<=sizeLine/\Y4 xs its.toList/\o.dict=none
def v3U:A9->Option V
 | .none=>some .non
 | .bool b=>some (.bl b)
 | .int i _=>some (.int i)
 | .str x _=>some (.str x)
 | .bytes b _=>some (.byt b)
 | .float b _=>some (.flt b)
 | .ref a=>some (.ref a)
 | .type n=>some (.ty n)
 |_=>none
theorem f9.abs(r:f9 x u):v3U u=some x:=by
 cases x with
 |non=>cases r;rfl
 |bl _=>cases r;rfl
 |int _=>obtain⟨t,rfl⟩:=r;rfl
 |str _=>obtain⟨t,rfl⟩:=r;rfl
 |byt _=>obtain⟨t,rfl⟩:=r;rfl
 |flt _=>obtain⟨t,rfl⟩:=r;rfl
 |ref _=>cases r;rfl
 |ty _=>cases r;rfl
def f9.inj(r:f9 x u)(q:f9 y u):x=y:=Bi (r.abs.symm.trans q.abs)
theorem Y4.inj:∀{xs ys:List V} {us:List A9},Y4 xs us->Y4 ys us->xs=ys
 |_,_,_,.nil,.nil=>rfl
 |_,_,_,.cons r t,.cons r' t'=>by rw[r.inj r',Y4.inj t t']
section
variable{X:Cx}{aa:i6}{U:St}{H:Hp}{s:Ae}{a:As}{xs ys:List V}
def i7.of{K:A5}(h:H a=some (.lst xs)):i7 K H a xs:=.inl (.inl h)
def i8.of{K:A5}(h:H a=some (.tup xs)):i8 K H a xs:=.inl (.inl h)
def a9.list(I:a9 X aa U H s)(h:i7 X.K H a xs):∃its:List A9,Y4 xs its/\PlainL s.heap a its.toArray/\xs.length<=sizeLine:=by
 rcases h with h|⟨o,its,n,hk,hc,hd,hs,hz,r⟩
 .obtain⟨z,its,n,r,e⟩:=h.ok I.hok;exact⟨its,r,⟨_,n,e,rfl,rfl,rfl⟩,z⟩
 .refine⟨its.toList,r,⟨o,n,I.kIn a o hk,hc,hd,by simpa using hs⟩,?_⟩;have e:=r.length;simp only[Ar]at e;omega
def a9.tuple(I:a9 X aa U H s)(h:i8 X.K H a xs):∃its:List A9,Y4 xs its/\Jo s.heap a its.toArray/\xs.length<=sizeLine:=by
 rcases h with h|⟨o,its,n,hk,hc,hs,hz,r,_⟩
 .obtain⟨z,its,r,p⟩:=h.ok I.hok;exact⟨its,r,p.isTup,z⟩
 .refine⟨its.toList,r,⟨o,I.kIn a o hk,hc,n,by simpa using hs⟩,?_⟩;have e:=r.length;simp only[Ar]at e;omega
def a9.tupleP(I:a9 X aa U H s)(h:i8 X.K H a xs):∃o,s.heap.get? a=some o/\o.cls = .type "tuple"/\o.dict=none:=by
 rcases h with h|⟨o,its,n,hk,hc,hs,hz,r,d⟩
 .obtain⟨z,its,r,o,e,c,_,d⟩:=h.ok I.hok;exact⟨o,e,c,d⟩
 .exact⟨o,I.kIn a o hk,hc,d⟩
def a9.list_inj(I:a9 X aa U H s)(h:i7 X.K H a xs)(h':i7 X.K H a ys):xs=ys:=by
 obtain⟨its,r,⟨o,n,e,_,_,d⟩,_⟩:=I.list h;obtain⟨its',r',⟨o',n',e',_,_,d'⟩,_⟩:=I.list h';rw[e]at e';cases e';rw[d]at d';injection d' with d1 _
 have:its=its':=by simpa using lE Array.toList d1
 subst this;exact r.inj r'
def a9.tuple_inj(I:a9 X aa U H s)(h:i8 X.K H a xs)(h':i8 X.K H a ys):xs=ys:=by
 obtain⟨its,r,⟨o,e,_,n,d⟩,_⟩:=I.tuple h;obtain⟨its',r',⟨o',e',_,n',d'⟩,_⟩:=I.tuple h';rw[e]at e';cases e';rw[d]at d';injection d' with d1 _
 have:its=its':=by simpa using lE Array.toList d1
 subst this;exact r.inj r'
end
abbrev Cx.wish(X:Cx)(E:VP):Cx:={ X with xe:=E }
abbrev Cx.nox(X:Cx):Cx:=X.wish λ_ _=>False
def Cx.Ok.wish{X:Cx}(ok:X.Ok)(E:VP):(X.wish E).Ok:=
 ⟨ok.mod,ok.kind,ok.glob,ok.blt,ok.above,ok.inj,ok.has,ok.cab,ok.hd,ok.frames,ok.stk,ok.exf,ok.bs,ok.bsz,ok.noex,ok.exfs,ok.funs,ok.frf⟩
def Cx.Ok.unwish{X:Cx}(ok:(X.wish E).Ok):X.Ok:=
 ⟨ok.mod,ok.kind,ok.glob,ok.blt,ok.above,ok.inj,ok.has,ok.cab,ok.hd,ok.frames,ok.stk,ok.exf,ok.bs,ok.bsz,ok.noex,ok.exfs,ok.funs,ok.frf⟩
section
variable{X:Cx}{aa:i6}{U:St}{H:Hp}{s:Ae}{E:VP}
def a9.wish(I:a9 X aa U H s)(E:VP):a9 (X.wish E) aa U H s:=⟨I.ok.wish E,I.os,I.bare,I.base,I.loc,I.cell,I.free,I.freeC,I.pin,I.hok,I.len⟩
def a9.unwish(I:a9 (X.wish E) aa U H s):a9 X aa U H s:=⟨I.ok.unwish,I.os,I.bare,I.base,I.loc,I.cell,I.free,I.freeC,I.pin,I.hok,I.len⟩
theorem SP.unwish(h:SP (X.wish E) aa D f s'):SP X aa D f s':=by
 cases f with
 |next=>obtain⟨U',H',I,q⟩:=h;exact⟨U',H',I.unwish,q⟩
 |brk=>obtain⟨U',H',I,q⟩:=h;exact⟨U',H',I.unwish,q⟩
 |cont=>obtain⟨U',H',I,q⟩:=h;exact⟨U',H',I.unwish,q⟩
 |ret u=>obtain⟨v,U',H',I,r,q⟩:=h;exact⟨v,U',H',I.unwish,r,q⟩
def nI.nox{st:List Dl}{t:TS}(h:nI X.nox st t):nI X st t:=λaa s U H D I hw=>Cm (h aa s U H D (I.wish _) hw) (λ_ _ q=>q.unwish) λ_ _ z=>G7 z
end
section
variable{X:Cx}{st:Dl}{rest:List Dl}{t u:TS}{e:Expr}{te:TE}{pos:Hi}
def v16:TS:=λD U H=>D.nx U H
def Vk(t u:TS):TS:=λD U H=>t { D with nx:=u D } U H
def Ô:nI X [] v16:=λ_ _ U H _ I h=>Kg ⟨U,H,I,h⟩
theorem yX(h1:PS X st t)(h2:nI X rest u):nI X (st::rest) (Vk t u):=by
 intro aa s U H D I h;refine wpAny_execs_cons (kY (h1 aa s U H { D with nx:=u D } I h) λf s1 q=>?_)
 cases f with
 |next=>obtain⟨U',H',I',q⟩:=q;exact h2 aa s1 U' H' D I' q
 |ret v=>exact q
 |brk=>exact q
 |cont=>exact q
theorem EJ(h1:PS X st t):nI X [st] t:=by
 intro aa s U H D I h;refine wpAny_execs_cons (kY (h1 aa s U H D I h) λf s1 q=>?_)
 cases f with
 |next=>exact Kg q
 |ret v=>exact q
 |brk=>exact q
 |cont=>exact q
def a9.quiet(I:a9 X aa U H s):interactive X.env=false:=by simp[interactive,I.ok.kind]
def v17(te:TE):TS:=λD U H=>te U H λ_ H1=>D.nx U H1
def AJ(he:PE X e te)(hs:Er e none pos.line X.env=Ci false:=by rfl):PS X (.Expr e pos) (v17 te):=by intro aa s U H D I h;exact wpAny_Expr_any (jK (he aa s U H _ I h) λv s1 x H1 I1 r1 q1=>⟨U,H1,I1,q1⟩) I.quiet hs
def Vj(te:TE):TS:=λD U H=>te U H D.rt
def FA(he:PE X e te):PS X (.Return (some e) pos) (Vj te):=by intro aa s U H D I h;exact wpAny_Return_some (jK (he aa s U H _ I h) λv s1 x H1 I1 r1 q1=>⟨x,U,H1,I1,r1,q1⟩)
def v3D(c:TT)(t u:TS):TS:=λD U H=>c U H λb H1=>if b=true then t D U H1 else u D U H1
theorem v1P(hc:PT X c tc)(ha:nI X a t)(hb:nI X b u):PS X (.If c a b pos) (v3D tc t u):=by
 intro aa s U H D I h;refine wpAny_If (kY (hc aa s U H _ I h) λd s1 ⟨H1,I1,q1⟩=>?_)
 cases d with
 |true=>exact ha aa s1 U H1 D I1 q1
 |false=>exact hb aa s1 U H1 D I1 q1
end
abbrev TG:=V->St->Hp->(St->Hp->Prop)->Prop
abbrev vY:=List V->St->Hp->(St->Hp->Prop)->Prop
def PG(X:Cx)(ae:Expr)(t:TG):Prop:=
 ∀(aa:i6) (s:Ae) (U:St) (H:Hp) (v:V) (u:A9) (Q:St->Hp->Prop),a9 X aa U H s->f9 v u->t v U H Q ->
  Ah (Aw X.prog X.w) X.A (Lw ae X.env u) (λ_ s'=>∃U' H',a9 X aa U' H' s'/\Q U' H') X.xe s
def wA(X:Cx)(ts:List Expr)(t:vY):Prop:=
 ∀(aa:i6) (s:Ae) (U:St) (H:Hp) (vs:List V) (us:List A9) (Q:St->Hp->Prop),a9 X aa U H s->Y4 vs us->t vs U H Q ->
  Ah (Aw X.prog X.w) X.A (assignInOrder ((E6 ts X.env).map (·.2)) us) (λ_ s'=>∃U' H',a9 X aa U' H' s'/\Q U' H') X.xe s
abbrev NJ:=V->V->Hp->VK->Prop
def Vw(X:Cx)(op:Operator)(t:NJ):Prop:=
 ∀(aa:i6) (s:Ae) (U:St) (H:Hp) (x y:V) (v u:A9) (Q:VK),a9 X aa U H s->f9 x v->f9 y u->t x y H Q ->
  Ah (Aw X.prog X.w) X.A (inplaceOp op v u) (EP X aa U Q) X.xe s
section
variable{X:Cx}{pos:Hi}
def sN(i:Nat):TG:=λv U H Q=>Q (U.set i (some v)) H
def EI{i:Nat}{x:Ba}(hN:X.N.Nodup)(hi:X.N[i]?=some x)(hx:m9 X.env.scope x)(hf:X.fn x=true\/X.env.scope.names.lookup x=some .local:=by first|exact .inl rfl|exact .inr rfl|assumption):PG X (.Name x pos) (sN i):=by intro aa s U H v u Q I r h;exact wpAny_assign_Name (JO I hN hi hx r (λs' I'=>⟨_,H,I',h⟩) hf)
def U3:vY:=λvs U H Q=>vs=[]/\Q U H
def LZ(t:TG)(u:vY):vY:=λvs U H Q=>∃v r,vs=v::r/\t v U H λU' H'=>u r U' H' Q
def RL:wA X [] U3:=by intro aa s U H vs us Q I r h;obtain⟨e,h⟩:=h;subst e;cases r;exact assignInOrder_nil ⟨U,H,I,h⟩
theorem JH(h1:PG X e t)(h2:wA X es u)(hs:(E6 (e::es) X.env).map (·.2)=Lw e X.env::(E6 es X.env).map (·.2):=by rfl):wA X (e::es) (LZ t u):=by
 intro aa s U H vs us Q I r h;obtain⟨v,vr,e1,h⟩:=h;subst e1
 cases r with
 |cons r rr=>rw[hs];refine assignInOrder_cons (kY (h1 aa s U H _ _ _ I r h) λ_ s1 ⟨U1,H1,I1,q1⟩=>?_);exact h2 aa s1 U1 H1 _ _ Q I1 rr q1
def U4(K:A5)(n:Nat)(t:vY):TG:=λv U H Q=>∃a xs,v = .ref a/\i8 K H a xs/\xs.length=n/\t xs U H Q
def Ux{n:Nat}(hc:X.calm=true)(h:wA X es t)(hn:(E6 es X.env).length=n:=by rfl)(cn:(E6 es X.env).findIdx? (·.1)=none:=by rfl):PG X (.Tuple es k pos) (U4 X.K n t):=by intro aa s U H v u Q I r hw;obtain⟨a,xs,e1,hq,hl,hw⟩:=hw;subst e1;cases r;obtain⟨its,rv,ht,hz⟩:=I.tuple hq;refine assign_Tuple_tuple (I.ok.hd hc) ht (by simp[hn,<-hl,rv.length]) cn λh' hx=>?_;have I1:a9 X aa U H { s with heap:=h' }:=I.kept (t':=s.toks) λb o e=>hx b o (An (Aj e)) e;exact h aa _ U H xs _ Q I1 (by simpa using rv) hw
def AY(te:TE)(g:TG):TS:=λD U H=>te U H λx H1=>g x U H1 D.nx
def ŏ(he:PE X e te)(hg:PG X tg g)(hs:swapsWithSole [tg] e pos.line X.env=Ci false:=by rfl)(hw:swappedStores [tg] e X.env=Ci none:=by rfl)(h1:(E6 [tg] X.env).map (·.2)=[Lw tg X.env]:=by rfl):PS X (.Assign [tg] e pos) (AY te g):=by intro aa s U H D I h;refine wpAny_Assign_stores (jK (he aa s U H _ I h) λv s1 x H1 I1 r1 q1=>?_) hs hw;rw[h1];exact kY (hg aa s1 U H1 x v _ I1 r1 q1) λ_ s2 q=>q
def LA{i:Nat}{x:Ba}(hN:X.N.Nodup)(hi:X.N[i]?=some x)(hx:m9 X.env.scope x)(he:PE X e te)(hs:Er e (some (.Name x aS)) pos.line X.env=Ci false:=by rfl)(hf:X.fn x=true\/X.env.scope.names.lookup x=some .local:=by first|exact .inl rfl|exact .inr rfl|assumption):
  PS X (.Assign [.Name x aS] e pos) (AY te (sN i)):=by
 intro aa s U H D I h;refine wpAny_Assign_Name (jK (he aa s U H _ I h) λv s1 y H1 I1 r1 q1=>?_) hs;exact JO I1 hN hi hx r1 (λs2 I2=>⟨_,H1,I2,q1⟩) hf
def v3F(i:Nat)(te:TE)(ti:NJ):TS:=λD U H=>∃x,U[i]?=some (some x)/\te U H λy H1=>ti x y H1 λz H2=>D.nx (U.set i (some z)) H2
def Ő{i:Nat}{x:Ba}(hN:X.N.Nodup)(hi:X.N[i]?=some x)(hx:m9 X.env.scope x)(he:PE X e te)(ho:Vw X op ti)(hf:X.fn x=true\/X.env.scope.names.lookup x=some .local:=by first|exact .inl rfl|exact .inr rfl|assumption):
  PS X (.AugAssign (.Name x aS) op e pos) (v3F i te ti):=by
 intro aa s U H D I h;obtain⟨v,e1,h⟩:=h;obtain⟨m,hn,hl⟩:=I.loc
 have vis:mS X.env.scope x:=by rcases hx with k|k;exact .inl k;exact .inr (.inl k)
 obtain⟨u,r,l⟩:=hl i x v hi e1 vis;refine wpAny_AugAssign_Name ?_
 have go:Ah (Aw X.prog X.w) X.A (Ec e X.env) (λw s₂=>Ah (Aw X.prog X.w) X.A (inplaceOp op u w) (λr s₃=>Ah (Aw X.prog X.w) X.A (storeName X.env x r) (λ_=>SP X aa D .next) X.xe s₃) X.xe s₂) X.xe s:=by refine jK (he aa s U H _ I h) λw s1 y H1 I1 r1 q1=>?_;refine jK (ho aa s1 U H1 v y u w _ I1 r r1 q1) λz s2 zv H2 I2 r2 q2=>?_;exact JO I2 hN hi hx r2 (λs3 I3=>⟨_,H2,I3,q2⟩) hf
 rcases l with⟨hk,hm⟩|⟨hk,c,hc,ay⟩
 .exact wpAny_loadName_local I.ok.kind hk hn hm go
 .rcases hk with hk|hk
  .exact wpAny_loadName_cell I.ok.kind hk hc ay go
  .rcases hx with k|k
   .have:X.env.scope.names.lookup x=some .free:=hk
    rw[k]at this;cases this
   .have:X.env.scope.names.lookup x=some .free:=hk
    rw[k]at this;cases this
def ipI(f:Int->Int->Int):NJ:=λx y H Q=>∃i j,x = .int i/\y = .int j/\Q (.int (f i j)) H
def v0G:Vw X .Add (ipI λi j=>i+j):=by intro aa s U H x y v u Q I r1 r2 h;obtain⟨i,j,e1,e2,q⟩:=h;subst e1;subst e2;obtain⟨t,rfl⟩:=r1;obtain⟨t',rfl⟩:=r2;exact iadd_int ⟨.int _,H,I.tok _,⟨_,rfl⟩,q⟩
def Ŭ(c:TT)(tb:TS):TS:=λD U H=>∃W:Nat->St->Hp->Prop,(∃m,W m U H)/\∀m U H,W m U H ->
 c U H λb H1=>if b=true then ∃N:St->Hp->Prop,(∀U' H',N U' H'->∃m',m'<m/\W m' U' H')/\tb { D with nx:=N,ct:=N,bk:=D.nx } U H1 else D.nx U H1
theorem ϴ(hp:N4 (Aw X.prog X.w) X.A X.env X.xe)(hc:PT X c tc)(hb:nI X body tb):PS X (.While c body [] pos) (Ŭ tc tb):=by
 intro aa s U H D I h;obtain⟨W,⟨m0,w0⟩,turn⟩:=h;refine wpAny_While (codeAny_whileLoop (λn s'=>∃U' H',a9 X aa U' H' s'/\W n U' H') ?_ m0 ⟨U,H,I,w0⟩);rintro n s1 ⟨U1,H1,I1,w1⟩;refine Fu hp (kY (hc aa s1 U1 H1 _ I1 (turn n U1 H1 w1)) λb s2 ⟨H2,I2,q2⟩=>?_)
 cases b with
 |true=>
  obtain⟨N,hN,q2⟩:=q2;rw[y6 rfl];refine Fu hp (kY (hb aa s2 U1 H2 _ I2 q2) λf s3 q3=>?_)
  cases f with
  |next=>obtain⟨U3,H3,I3,n3⟩:=q3;obtain⟨m',hm,w3⟩:=hN U3 H3 n3;exact⟨m',hm,U3,H3,I3,w3⟩
  |cont=>obtain⟨U3,H3,I3,n3⟩:=q3;obtain⟨m',hm,w3⟩:=hN U3 H3 n3;exact⟨m',hm,U3,H3,I3,w3⟩
  |brk=>exact q3
  |ret v=>exact q3
 |false=>rw[y8 Ay];exact Kg ⟨U1,H2,I2,q2⟩
end
structure It where
 go:Nat->Hp->Prop
 yld:Nat->Hp->V->Hp->Prop
 stop:Nat->Hp->Prop
def qM(X:Cx)(aa:i6)(H:Hp)(b:As):Prop:=H b=none/\b≠X.env.locals/\b∉X.fs/\(b∈X.ex\/X.s₀.heap.objs.size<=b)/\(∀x c,X.env.cells.lookup x=some c->c≠b)/\∀p∈X.pn++aa,p.1≠b
def a9.fpOk{H H':Hp}{b:As}(I:a9 X aa U H s)(hb:s.heap.objs.size<=b)(hn:H' b=none):qM X aa H' b:=by
 refine⟨hn,Cw (B3 I.lt hb),I.nofs hb,.inr (C7 I.sz hb),λx c e z=>?_,λp hp z=>?_⟩
 .obtain⟨v,q⟩:=I.cell x c e;exact u3 (B3 q.lt (by rw[z];exact hb)) (Di _)
 .exact u3 (B3 (Aj (I.pin p hp).1) (by rw[z];exact hb)) (Di _)
structure qQ(P:Bs)(w:Ce)(K:A5)(tg:Expr)(J:It)(fp:List As)(it:As)(tn:Nat->Ch->Prop):Prop where
 mem:it∈fp
 obj:∀i h,tn i h->∀b∈fp,∃o,h.get? b=some o/\∀v,o.data≠.cell v
 keep:∀i h h',tn i h->(∀b∈fp,∀o,h.get? b=some o->h'.get? b=some o)->tn i h'
 item:∀(X:Cx),X.prog=P->X.w=w->X.K=K->X.calm=true->∀(i:Nat) (aa:i6) (s:Ae) (U:St) (H:Hp) (E:VP),a9 X aa U H s->(∀b∈fp,qM X aa H b)->tn i s.heap->J.go i H ->
  Ah (Aw P w) X.A (Hb (.ref it)) (λr s1=>∃u,r=some u /\
   Ah (Aw P w) X.A (Kh tg (.ref it) u) (λ_ s2=>∃x H',a9 X aa U H' s2/\f9 x u/\J.yld i H x H'/\tn (i+1) s2.heap/\∀b∈fp,H' b=none) E s1) E s
 done:∀(X:Cx),X.prog=P->X.w=w->X.K=K->X.calm=true->∀(i:Nat) (aa:i6) (s:Ae) (U:St) (H:Hp) (E:VP),a9 X aa U H s->(∀b∈fp,qM X aa H b)->tn i s.heap->J.stop i H ->
  Ah (Aw P w) X.A (Hb (.ref it)) (λr s1=>r=none/\a9 X aa U H s1) E s
 self:∀(A:Bz) (i:Nat) (s:Ae) (Q:VP) (E:VP),tn i s.heap->Q (.ref it) s->Ah (Aw P w) A (Nq (.ref it)) Q E s
abbrev TI:=St->Hp->(It->Hp->Prop)->Prop
def Vx(X:Cx)(aa:i6)(U:St)(tg:Expr)(R:It->Hp->Prop)(itv:A9)(s2:Ae):Prop:=∃(it:As) (fp:List As) (tn:Nat->Ch->Prop) (J:It) (H':Hp),itv = .ref it/\a9 X aa U H' s2/\qQ X.prog X.w X.K tg J fp it tn/\tn 0 s2.heap/\(∀b∈fp,qM X aa H' b)/\R J H'
def PI(X:Cx)(tg ag:Expr)(wi:TI):Prop:=
 ∀(aa:i6) (s:Ae) (U:St) (H:Hp) (R:It->Hp->Prop),a9 X aa U H s->wi U H R ->
  Ah (Aw X.prog X.w) X.A (Ec ag X.env) (λv s1=>Ah (Aw X.prog X.w) X.A (Nq v) (Vx X aa U tg R) X.xe s1) X.xe s
def MB{s:Ae}{it:As}{o:Ka}{Q:Unit->Ae->Prop}(ho:s.heap.get? it=some o)(hc:o.cls = .type n)(hd:o.data = .fields vs)(hn:["enumerate","zip","dict_itemiterator","dict_reverseitemiterator","odict_iterator","itertools.zip_longest","itertools.pairwise"].contains n=false)(hQ:Q () s):Ah M A (Kh tg (.ref it) u) Q E s:=by
  unfold Kh
  cases tg<;>first
    |exact x6 hQ
    | (cases u<;>first
        |exact x6 hQ
        | (refine A0 (Mm ho ?_)
           rw[hc,hd]
           show Ah M A (if (["enumerate","zip","dict_itemiterator","dict_reverseitemiterator","odict_iterator","itertools.zip_longest","itertools.pairwise"].contains n&&vs[0]?==some (rawInt _))=true then _ else _) Q E s
           rw[y8 (by intro h;rw[hn,Bool.false_and]at h;cases h)]
           exact x6 hQ))
def NO(K:A5)(a:As):It:=
 ⟨λi H=>∃xs x,i7 K H a xs/\xs[i]?=some x,λi H x H'=>H'=H/\∀xs,i7 K H a xs->xs[i]?=some x,λi H=>∃xs,i7 K H a xs/\xs.length<=i⟩
def NN(K:A5)(a:As):It:=
 ⟨λi H=>∃xs x,i8 K H a xs/\xs[i]?=some x,λi H x H'=>H'=H/\∀xs,i8 K H a xs->xs[i]?=some x,λi H=>∃xs,i8 K H a xs/\xs.length<=i⟩
def BN(lo:Int)(n:Nat):It:=⟨λi _=>i<n,λi H x H'=>H'=H/\x = .int (lo+i),λi _=>n<=i⟩
def YX{P:Bs}{w:Ce}{K:A5}{tg:Expr}(a it:As):qQ P w K tg (NO K a) [it] it (λi h=>h.IsListIter it a i) where
 mem:=by simp
 obj:=λi h st b hb=>by
  have e:b=it:=by simpa using hb
  subst e;obtain⟨o,e,c,d⟩:=st;exact⟨o,e,λv z=>by rw[d]at z;cases z⟩
 keep:=λi h h' st k=>st.at λo e=>k it (by simp) o e
 item:=by
  intro X hP hw hK hc i aa s U H E I hf st hg;subst hP hw hK;obtain⟨xs,x,hq,hx⟩:=hg;obtain⟨its,rv,p,hz⟩:=I.list hq;obtain⟨u,hu,ru⟩:=rv.get hx;obtain⟨f0,f1,f2,f3,f4,f5⟩:=hf it (by simp);refine wpAny_pyNext_list_item st p.isList (x:=u) (by simpa using hu) λh' aQ sb=>?_;have I1:a9 X aa U H { s with heap:=h' }:=I.turned (t':=s.toks) (λb o hb e=>(sb.2 b hb).trans e) f0 f1 f3 f4 f5;obtain⟨o,e,c,d⟩:=id aQ
  exact⟨u,rfl,MB (s:={ s with heap:=h' }) e c d ∅ ⟨x,H,I1,ru,⟨rfl,λys hy=>by rw[I.list_inj hy hq];exact hx⟩,aQ,λb hb=>(hf b hb).1⟩⟩
 done:=by intro X hP hw hK hc i aa s U H E I hf st hg;subst hP hw hK;obtain⟨xs,hq,hx⟩:=hg;obtain⟨its,rv,p,hz⟩:=I.list hq;obtain⟨f0,f1,f2,f3,f4,f5⟩:=hf it (by simp);have hl:=rv.length;exact wpAny_pyNext_list_end (I.ok.hd hc) st p.isList (by simp;omega) λh' eb=>⟨rfl,I.turned (t':=s.toks) (λb o hb e=>eb b o hb e) f0 f1 f3 f4 f5⟩
 self:=λ_ _ _ _ _ st h=>wpAny_pyIter_listiter st h
def ě{P:Bs}{w:Ce}{K:A5}{tg:Expr}(a it:As):qQ P w K tg (NN K a) [it] it (λi h=>h.IsTupleIter it a i) where
 mem:=by simp
 obj:=λi h st b hb=>by
  have e:b=it:=by simpa using hb
  subst e;obtain⟨o,e,c,d⟩:=st;exact⟨o,e,λv z=>by rw[d]at z;cases z⟩
 keep:=λi h h' st k=>st.at λo e=>k it (by simp) o e
 item:=by
  intro X hP hw hK hc i aa s U H E I hf st hg;subst hP hw hK;obtain⟨xs,x,hq,hx⟩:=hg;obtain⟨its,rv,p,hz⟩:=I.tuple hq;obtain⟨u,hu,ru⟩:=rv.get hx;obtain⟨f0,f1,f2,f3,f4,f5⟩:=hf it (by simp);refine Gc st (show s.heap.IsTuple a its.toArray from p) (x:=u) (by simpa using hu) λh' aQ sb=>?_;have I1:a9 X aa U H { s with heap:=h' }:=I.turned (t':=s.toks) (λb o hb e=>(sb.2 b hb).trans e) f0 f1 f3 f4 f5
  obtain⟨o,e,c,d⟩:=id aQ;exact⟨u,rfl,MB (s:={ s with heap:=h' }) e c d ∅ ⟨x,H,I1,ru,⟨rfl,λys hy=>by rw[I.tuple_inj hy hq];exact hx⟩,aQ,λb hb=>(hf b hb).1⟩⟩
 done:=by intro X hP hw hK hc i aa s U H E I hf st hg;subst hP hw hK;obtain⟨xs,hq,hx⟩:=hg;obtain⟨its,rv,p,hz⟩:=I.tuple hq;obtain⟨f0,f1,f2,f3,f4,f5⟩:=hf it (by simp);have hl:=rv.length;exact Ix (I.ok.hd hc) st (show s.heap.IsTuple a its.toArray from p) (by simp;omega) λh' eb=>⟨rfl,I.turned (t':=s.toks) (λb o hb e=>eb b o hb e) f0 f1 f3 f4 f5⟩
 self:=λ_ _ _ _ _ st h=>wpAny_pyIter_tupleiter st h
def Ě{P:Bs}{w:Ce}{K:A5}{tg:Expr}(it:As)(lo:Int)(n:Nat):qQ P w K tg (BN lo n) [it] it (λi h=>IsRangeIter h it (lo+(i:Nat)*1) ((n:Int)-(i:Nat)) 1) where
 mem:=by simp
 obj:=λi h st b hb=>by
  have e:b=it:=by simpa using hb
  subst e
  exact⟨_,st,λv z=>by
   have z':Data.fields _=Data.cell v:=z
   cases z'⟩
 keep:=λi h h' st k=>k it (by simp) _ st
 item:=by
  intro X hP hw hK hc i aa s U H E I hf st hg;subst hP hw hK;obtain⟨f0,f1,f2,f3,f4,f5⟩:=hf it (by simp);have W:=Nf.range (prog:=X.prog) (w:=X.w) (I.ok.hd hc) it lo 1 n;refine W.item i s _ _ hg st λv h' tk hv aQ kk=>?_;obtain⟨t,rfl⟩:=hv;have I1:a9 X aa U H { s with heap:=h',toks:=tk }:=I.turned (λb o hb e=>kk b o (by simpa using hb) e) f0 f1 f3 f4 f5;refine⟨_,rfl,MB (s:={ s with heap:=h',toks:=tk }) (n:="range_iterator") aQ rfl rfl ∅ ⟨.int (lo+i),H,I1,⟨t,?_⟩,⟨rfl,rfl⟩,aQ,λb hb=>(hf b hb).1⟩⟩
  rw[Int.mul_one]
 done:=by intro X hP hw hK hc i aa s U H E I hf st hg;subst hP hw hK;obtain⟨f0,f1,f2,f3,f4,f5⟩:=hf it (by simp);exact wpAny_pyNext_range_end (I.ok.hd hc) st (by have:n<=i:=hg;omega) λh' eb=>⟨rfl,I.turned (t':=s.toks) (λb o hb e=>eb b o hb e) f0 f1 f3 f4 f5⟩
 self:=λ_ _ _ _ _ st h=>wpAny_pyIter_rangeiter st h
section
variable{X:Cx}{tg:Expr}
def v23(K:A5)(tl:TE):TI:=λU H R=>tl U H λx H1=>∃a,x = .ref a/\(∃xs,i7 K H1 a xs)/\R (NO K a) H1
def v3Q(K:A5)(tl:TE):TI:=λU H R=>tl U H λx H1=>∃a,x = .ref a/\(∃xs,i8 K H1 a xs)/\R (NN K a) H1
def RM(hl:PE X l tl):PI X tg l (v23 X.K tl):=by
 intro aa s U H R I h;refine jK (hl aa s U H _ I h) λv s1 x H1 I1 r1 q1=>?_;obtain⟨a,e,⟨xs,hq⟩,q⟩:=q1;subst e;cases r1;obtain⟨its,rv,p,hz⟩:=I1.list hq;refine Hd p.isList ?_;refine⟨s1.heap.objs.size,[s1.heap.objs.size],_,_,H1,rfl,I1.kept (t':=s1.toks) λb o e=>A8 _ e,YX a _,⟨_,Ak _ rfl,rfl,rfl⟩,λb hb=>?_,q⟩
 have e:b=s1.heap.objs.size:=by simpa using hb
 subst e;exact I1.fpOk (Ad _) (I1.hok.fresh (Ad _))
def Ŏ(hl:PE X l tl):PI X tg l (v3Q X.K tl):=by
 intro aa s U H R I h;refine jK (hl aa s U H _ I h) λv s1 x H1 I1 r1 q1=>?_;obtain⟨a,e,⟨xs,hq⟩,q⟩:=q1;subst e;cases r1;obtain⟨its,rv,p,hz⟩:=I1.tuple hq;refine Ev (show s1.heap.IsTuple a its.toArray from p) ?_;refine⟨s1.heap.objs.size,[s1.heap.objs.size],_,_,H1,rfl,I1.kept (t':=s1.toks) λb o e=>A8 _ e,ě a _,⟨_,Ak _ rfl,rfl,rfl⟩,λb hb=>?_,q⟩
 have e:b=s1.heap.objs.size:=by simpa using hb
 subst e;exact I1.fpOk (Ad _) (I1.hok.fresh (Ad _))
def S9{R:It->Hp->Prop}{lo hi:Int}{tk:Nat}(I:a9 X aa U H s)(h1 : -(2 ^ 62)<=lo)(h2:lo<2 ^ 62)(h3 : -(2 ^ 62)<=hi)(h4:hi<2 ^ 62)(q:R (BN lo (hi-lo).toNat) H):Ah (Aw X.prog X.w) X.A (Nq (.ref s.heap.objs.size)) (Vx X aa U tg R) E { s with heap:=s.heap.push { cls:=.type "range",data:=.fields #[.int lo t,.int hi u,.int 1 v] },toks:=tk }:=by
 refine wpAny_pyIter_range (IsRange.new ..) (small_one h1 h2 h3 h4) ?_;have I1:a9 X aa U H { s with heap:=s.heap.push { cls:=.type "range",data:=.fields #[.int lo t,.int hi u,.int 1 v] },toks:=tk }:=I.kept λb o e=>A8 _ e
 refine⟨(s.heap.push { cls:=.type "range",data:=.fields #[.int lo t,.int hi u,.int 1 v] }).objs.size,[(s.heap.push { cls:=.type "range",data:=.fields #[.int lo t,.int hi u,.int 1 v] }).objs.size],_,_,H,rfl,
  I1.kept (t':=tk) λb o e=>A8 _ e,Ě _ lo (hi-lo).toNat,?_,λb hb=>?_,q⟩
 .have e1:lo+((0:Nat):Int)*1=lo:=by simp
  have e2:(((hi-lo).toNat:Nat):Int)-((0:Nat):Int)=Iq lo hi 1:=by rw[Ng];split<;>omega
  show IsRangeIter _ _ (lo+((0:Nat):Int)*1) ((((hi-lo).toNat:Nat):Int)-((0:Nat):Int)) 1;rw[e1,e2];exact Ak _ rfl
 .have e:b=(s.heap.push { cls:=.type "range",data:=.fields #[.int lo t,.int hi u,.int 1 v] }).objs.size:=by simpa using hb
  subst e;exact I1.fpOk (Ad _) (I1.hok.fresh (Ad _))
def v22(ta:TA):TI:=λU H R=>ta U H λvs H1=>∃j:Int,vs=[.int j]/\-(2 ^ 62)<=j/\j<2 ^ 62/\R (BN 0 j.toNat) H1
def v21(ta:TA):TI:=λU H R=>ta U H λvs H1=>∃i j:Int,vs=[.int i,.int j]/\(-(2 ^ 62)<=i/\i<2 ^ 62/\-(2 ^ 62)<=j/\j<2 ^ 62)/\R (BN i (j-i).toNat) H1
theorem YB{a:Expr}{p pos:Hi}(hg:Gl X "range")(hm:X.mg "range" = none)(ha:PA X [a] ta)(hs:Bt [a] X.env=[(false,Ec a X.env)]:=by rfl):PI X tg (.Call (.Name "range" p) [a] [] pos) (v22 ta):=by
 intro aa s U H R I h;refine Call_ (pN I hg hm boot_range (Ek (jK (ha pos aa s U H _ I h) λus s1 vs H1 I1 r1 q1=>?_) hs rfl));obtain⟨j,e,q1,q2,q⟩:=q1;subst e
 cases r1 with
 |cons r rr=>cases rr;obtain⟨t,rfl⟩:=r;exact call_range_1 (S9 I1 ⋯ ⋯ q1 q2 (by simpa using q))
theorem YC{a b:Expr}{p pos:Hi}(hg:Gl X "range")(hm:X.mg "range" = none)(ha:PA X [a,b] ta)(hs:Bt [a,b] X.env=[(false,Ec a X.env),(false,Ec b X.env)]:=by rfl)(bE:Bt [b] X.env=[(false,Ec b X.env)]:=by rfl):
  PI X tg (.Call (.Name "range" p) [a,b] [] pos) (v21 ta):=by
 intro aa s U H R I h;refine Call_ (pN I hg hm boot_range (Ek (jK (ha pos aa s U H _ I h) λus s1 vs H1 I1 r1 q1=>?_) (by rw[hs,bE]) (by rw[bE];rfl)))
 obtain⟨i,j,e,⟨q1,q2,q3,q4⟩,q⟩:=q1;subst e
 cases r1 with
 |cons r rr=>
  cases rr with
  |cons r' rr=>cases rr;obtain⟨t,rfl⟩:=r;obtain⟨t',rfl⟩:=r';exact call_range_2 (S9 I1 q1 q2 q3 q4 q)
def Vh(wi:TI)(g:TG)(tb:TS):TS:=λD U H=>wi U H λJ H1=>∃W:Nat->Nat->St->Hp->Prop,(∃m,W 0 m U H1)/\∀i m U H,W i m U H ->
 (J.stop i H/\D.nx U H)\/(J.go i H/\∃N:St->Hp->Prop,(∀U' H',N U' H'->∃m',m'<m/\W (i+1) m' U' H')/\∀x H',J.yld i H x H'->g x U H' λU2 H2=>tb { D with nx:=N,ct:=N,bk:=D.nx } U2 H2)
def zY(fp:List As)(h:Ch):i6:=fp.filterMap λb=>(h.get? b).map λo=>(b,o)
def DG{fp:List As}{h:Ch}{b:As}{o:Ka}(hb:b∈fp)(e:h.get? b=some o):(b,o)∈zY fp h:=Ew.mpr ⟨b,hb,by rw[e];rfl⟩
theorem Yx{p:As×Ka}(hp:p∈zY fp h):p.1∈fp/\h.get? p.1=some p.2:=by
 obtain⟨b,hb,e⟩:=Ew.mp hp
 cases q:h.get? b with
 |none=>rw[q]at e;cases e
 |some o=>rw[q]at e;have e':(b,o)=p:=Bi e;subst e';exact⟨hb,q⟩
def a9.pinned{fp:List As}(I:a9 X aa U H s)(hf:∀b∈fp,qM X aa H b)(ho:∀b∈fp,∃o,s.heap.get? b=some o/\∀v,o.data≠.cell v):a9 X (aa++zY fp s.heap) U H s:=I.pins_of λp hp=>(Az.mp hp).elim (λz=>I.pin p (Ab _ z)) λz=>by obtain⟨hb,e⟩:=Yx z;obtain⟨f0,f1,f2,_⟩:=hf p.1 hb;obtain⟨o,e',d⟩:=ho p.1 hb;rw[e]at e';cases e';exact⟨e,f0,f1,f2,d⟩
def a9.unpinned{aa pl:i6}(I:a9 X (aa++pl) U H s):a9 X aa U H s:=I.pins_of λp hp=>I.pin p (Ab _ (Bn _ hp))
def Uy(hp:N4 (Aw X.prog X.w) X.A X.env X.xe)(hc:X.calm=true)(hi:PI X tg ag wi)(hg:PG X tg g)(hb:nI X body tb)(hs:∀x,Cu ag X.env x=Ci x:=by intro _;rfl):PS X (.For tg ag body [] pos) (Vh wi g tb):=by
 intro aa s U H D I h;refine wpAny_For (kY (hi aa s U H _ I h) λv s1 h1=>kY h1 λitv s2 h2=>?_) hs;obtain⟨it,fp,tn,J,H2,e,I2,T,fy,f2,W,⟨m0,w0⟩,turn⟩:=h2;subst e;have cF:∀{H':Hp},(∀b∈fp,H' b=none)->∀b∈fp,qM X aa H' b:=λhn b hb=>⟨hn b hb,(f2 b hb).2⟩;refine codeAny_forLoop_any (λn s'=>∃i U' H',a9 X aa U' H' s'/\tn i s'.heap/\(∀b∈fp,H' b=none)/\W i n U' H') ?_ m0 ⟨0,U,H2,I2,fy,λb hb=>(f2 b hb).1,w0⟩
 rintro n s3 ⟨i,U3,H3,I3,jr,fr3,w3⟩;rcases turn i n U3 H3 w3 with⟨stop,qn⟩|⟨go,N,hN,step⟩
 .refine Fu hp (kY (T.done X rfl rfl rfl hc i aa s3 U3 H3 X.xe I3 (cF fr3) jr stop) λr s4 ⟨hr,I4⟩=>?_);subst hr;exact Kg ⟨U3,H3,I4,qn⟩
 .refine Fu hp (kY (T.item X rfl rfl rfl hc i aa s3 U3 H3 X.xe I3 (cF fr3) jr go) λr s4 ⟨u,hr,h4⟩=>?_);subst hr;refine Fu hp (kY h4 λ_ s5 ⟨x,H5,I5,r5,y5,gX,fr5⟩=>?_);have I5':=I5.pinned (cF fr5) (T.obj _ _ gX);refine Fu hp (kY (hg _ s5 U3 H5 x u _ I5' r5 (step x H5 y5)) λ_ s6 ⟨U6,H6,I6,q6⟩=>?_);refine Fu hp (kY (hb _ s6 U6 H6 _ I6 q6) λf s7 q7=>?_)
  have Mx:∀{U7:St} {H7:Hp},a9 X (aa++zY fp s5.heap) U7 H7 s7->N U7 H7->∃m,m<n/\∃i U' H',a9 X aa U' H' s7/\tn i s7.heap/\(∀b∈fp,H' b=none)/\W i m U' H':=λ{U7 H7} I7 n7=>by obtain⟨m',hm,w7⟩:=hN U7 H7 n7;refine⟨m',hm,i+1,U7,H7,I7.unpinned,T.keep _ _ _ gX λb hb o e=>(I7.pin (b,o) (Ab _ (Ab _ (DG hb e)))).1,λb hb=>?_,w7⟩;obtain⟨o,e,d⟩:=T.obj _ _ gX b hb;exact(I7.pin (b,o) (Ab _ (Ab _ (DG hb e)))).2.1
  cases f with
  |next=>obtain⟨U7,H7,I7,n7⟩:=q7;exact Mx I7 n7
  |cont=>obtain⟨U7,H7,I7,n7⟩:=q7;exact Mx I7 n7
  |brk=>obtain⟨U7,H7,I7,q7⟩:=q7;exact⟨U7,H7,I7.unpinned,q7⟩
  |ret v=>obtain⟨x7,U7,H7,I7,r7,q7⟩:=q7;exact⟨x7,U7,H7,I7.unpinned,r7,q7⟩
end
abbrev R2:=V->V->Hp->VK->Prop
def kO(X:Cx)(f:A9->A9->Sem A9)(r:R2):Prop:=
 ∀(aa:i6) (s:Ae) (U:St) (H:Hp) (x y:V) (v u:A9) (Q:VK),a9 X aa U H s->f9 x v->f9 y u->r x y H Q ->
  Ah (Aw X.prog X.w) X.A (f v u) (EP X aa U Q) X.xe s
def NI(X:Cx)(f:A9->Sem A9)(r:V->Hp->VK->Prop):Prop:=
 ∀(aa:i6) (s:Ae) (U:St) (H:Hp) (x:V) (v:A9) (Q:VK),a9 X aa U H s->f9 x v->r x H Q ->
  Ah (Aw X.prog X.w) X.A (f v) (EP X aa U Q) X.xe s
def lC(X:Cx)(f:A9)(r:List V->Hp->VK->Prop):Prop:=
 ∀(aa:i6) (s:Ae) (U:St) (H:Hp) (xs:List V) (us:List A9) (Q:VK),a9 X aa U H s->Y4 xs us->r xs H Q ->
  Ah (Aw X.prog X.w) X.A (call f us) (EP X aa U Q) X.xe s
def v3V(X:Cx)(r:V->Hp->(Bool->Hp->Prop)->Prop):Prop:=
 ∀(aa:i6) (s:Ae) (U:St) (H:Hp) (x:V) (v:A9) (Q:Bool->Hp->Prop),a9 X aa U H s->f9 x v->r x H Q ->
  Ah (Aw X.prog X.w) X.A (Oj v) (TP X aa U Q) X.xe s
def yK(r:R2)(ta tb:TE):TE:=λU H Q=>ta U H λx H1=>tb U H1 λy H2=>r x y H2 Q
def tUn(r:V->Hp->VK->Prop)(ta:TE):TE:=λU H Q=>ta U H λx H1=>r x H1 Q
def rI(C:Int->Int->Prop)(g:Int->Int->V):R2:=λx y H Q=>∃i j,x = .int i/\y = .int j/\C i j/\Q (g i j) H
def sW(g:Int->Int->V):R2:=λx y H Q=>∃i j,x = .int i/\y = .int j/\Q (g i j) H
def rU(g:Int->V):V->Hp->VK->Prop:=λx H Q=>∃i,x = .int i/\Q (g i) H
section
variable{X:Cx}{a b c:Expr}{ta tb tc:TE}{pos:Hi}
def MP(ha:PE X a ta)(hb:PE X b tb){R:V->V->Hp->Prop}(I:a9 X aa U H s)(h:ta U H λx H1=>tb U H1 λy H2=>R x y H2){f:A9->A9->Sem A9}(hf:∀v u s2 x y H2,a9 X aa U H2 s2->f9 x v->f9 y u->R x y H2->Ah (Aw X.prog X.w) X.A (f v u) Q X.xe s2):
  Ah (Aw X.prog X.w) X.A (Ec a X.env) (λv s₁=>Ah (Aw X.prog X.w) X.A (Ec b X.env) (λu s₂=>Ah (Aw X.prog X.w) X.A (f v u) Q X.xe s₂) X.xe s₁) X.xe s:=by
 refine jK (ha aa s U H _ I h) λv s1 x H1 I1 r1 q1=>?_;refine jK (hb aa s1 U H1 _ I1 q1) λu s2 y H2 I2 r2 q2=>?_;exact hf v u s2 x y H2 I2 r1 r2 q2
def TL(ho:kO X (Hj op) r)(ha:PE X a ta)(hb:PE X b tb):PE X (.BinOp a op b pos) (yK r ta tb):=by intro aa s U H Q I h;exact wpAny_BinOp (MP ha hb I h λv u s2 x y H2 I2 rx ry q=>ho aa s2 U H2 x y v u Q I2 rx ry q)
def v1Q(ho:NI X (unaryOp op) r)(ha:PE X a ta):PE X (.UnaryOp op a pos) (tUn r ta):=by intro aa s U H Q I h;exact UnaryOp_ (jK (ha aa s U H _ I h) λv s1 x H1 I1 r1 q1=>ho aa s1 U H1 x v Q I1 r1 q1)
def NG{f:A9->A9->Sem A9}{C:Int->Int->Prop}{g:Int->Int->Int}(rule:∀(i j:Int) (t u:Tok) (s:Ae) (Q:VP) (E:VP),C i j->Q (.int (g i j) s.toks) { s with toks:=s.toks+1 }->Ah (Aw X.prog X.w) X.A (f (.int i t) (.int j u)) Q E s):
  kO X f (rI C λi j=>.int (g i j)):=by
 intro aa s U H x y v u Q I rx ry h;obtain⟨i,j,rfl,rfl,hc,q⟩:=h;obtain⟨t,rfl⟩:=rx;obtain⟨t',rfl⟩:=ry;exact rule i j t t' s _ _ hc ⟨.int (g i j),H,I.tok _,⟨_,rfl⟩,q⟩
def U9{f:A9->A9->Sem A9}{g:Int->Int->Int}(rule:∀(i j:Int) (t u:Tok) (s:Ae) (Q:VP) (E:VP),Q (.int (g i j) s.toks) { s with toks:=s.toks+1 }->Ah (Aw X.prog X.w) X.A (f (.int i t) (.int j u)) Q E s):
  kO X f (sW λi j=>.int (g i j)):=by
 intro aa s U H x y v u Q I rx ry h;obtain⟨i,j,rfl,rfl,q⟩:=h;obtain⟨t,rfl⟩:=rx;obtain⟨t',rfl⟩:=ry;exact rule i j t t' s _ _ ⟨.int (g i j),H,I.tok _,⟨_,rfl⟩,q⟩
def MZ{f:A9->A9->Sem A9}{g:Int->Int->Bool}(rule:∀(i j:Int) (t u:Tok) (s:Ae) (Q:VP) (E:VP),Q (.bool (g i j)) s->Ah (Aw X.prog X.w) X.A (f (.int i t) (.int j u)) Q E s):
  kO X f (sW λi j=>.bl (g i j)):=by
 intro aa s U H x y v u Q I rx ry h;obtain⟨i,j,rfl,rfl,q⟩:=h;obtain⟨t,rfl⟩:=rx;obtain⟨t',rfl⟩:=ry;exact rule i j t t' s _ _ ⟨.bl (g i j),H,I,rfl,q⟩
def UZ(i j:Int):Prop:=0<j/\j<1073741824
def BA(i j:Int):Prop:=(-(2 ^ 64)<i/\i<2 ^ 64)\/(-(2 ^ 64)<j/\j<2 ^ 64)
def BA.ok(h:BA i j):IntMulOk i j:=by
 rcases h with⟨h1,h2⟩|⟨h1,h2⟩
 .exact .of_left (intBits_le_64 h1 h2)
 .exact .of_right (intBits_le_64 h1 h2)
def Ļ:kO X (Hj .Add) (sW λi j=>.int (i+j)):=U9 λ_ _ _ _ _ _ _ q=>add_int q
def Ł:kO X (Hj .Sub) (sW λi j=>.int (i-j)):=U9 λ_ _ _ _ _ _ _ q=>sub_int q
def Ŀ:kO X (Hj .Mult) (rI BA λi j=>.int (i*j)):=NG λ_ _ _ _ _ _ _ hc q=>mul_int q hc.ok
def Ë:kO X (Hj .FloorDiv) (rI UZ λi j=>.int (i / j)):=NG λi j _ _ _ _ _ hc q=>by have h1:(0:Int)<j:=hc.1;have h2:j<1073741824:=hc.2;exact floordiv_int ⋯ (by rw[Int.fdiv_eq_ediv_of_nonneg i ⋯];exact q) (.inl (PyProof.noPylong_small ⋯))
def ľ:kO X (Hj .Mod) (rI (λ_ j=>0<j) λi j=>.int (i % j)):=NG λi j _ _ _ _ _ hc q=>by have h1:(0:Int)<j:=hc;exact mod_int' ⋯ (by rw[Int.fmod_eq_emod_of_nonneg i ⋯];exact q)
def unI{f:A9->Sem A9}{g:Int->Int}(rule:∀(i:Int) (t:Tok) (s:Ae) (Q:VP) (E:VP),Q (.int (g i) s.toks) { s with toks:=s.toks+1 }->Ah (Aw X.prog X.w) X.A (f (.int i t)) Q E s):
  NI X f (rU λi=>.int (g i)):=by
 intro aa s U H x v Q I rx h;obtain⟨i,rfl,q⟩:=h;obtain⟨t,rfl⟩:=rx;exact rule i t s _ _ ⟨.int (g i),H,I.tok _,⟨_,rfl⟩,q⟩
def Ů:NI X (unaryOp .USub) (rU λi=>.int (-i)):=unI λ_ _ _ _ _ q=>neg_int q
def TD:kO X (De .Lt) (sW λi j=>.bl (decide (i<j))):=MZ λ_ _ _ _ _ _ _ q=>lt_int q
def FI:kO X (De .LtE) (sW λi j=>.bl (decide (i<=j))):=MZ λ_ _ _ _ _ _ _ q=>le_int q
def v1S:kO X (De .Gt) (sW λi j=>.bl (decide (j<i))):=MZ λ_ _ _ _ _ _ _ q=>gt_int q
def kO.or(h:kO X f r)(h':kO X f r'):kO X f (λx y H Q=>r x y H Q\/r' x y H Q):=by
 intro aa s U H x y v u Q I rx ry q;rcases q with q|q
 .exact h aa s U H x y v u Q I rx ry q
 .exact h' aa s U H x y v u Q I rx ry q
def tH(b:Expr){op:Oi}(h:op≠.In:=by decide)(h2:op≠.NotIn:=by decide):Dj op b=false:=by
 have e1:(op==Oi.In)=false:=by cases op<;>first|rfl|exact u3 rfl h
 have e2:(op==Oi.NotIn)=false:=by cases op<;>first|rfl|exact u3 rfl h2
 cases b<;>simp[Dj,e1,e2]
def RI(ho:kO X (De op) r)(ha:PE X a ta)(hb:PE X b tb)(hm:Dj op b=false):PE X (.Compare a [op] [b] pos) (yK r ta tb):=by intro aa s U H Q I h;exact wpAny_Compare1 (MP ha hb I h λv u s2 x y H2 I2 rx ry q=>ho aa s2 U H2 x y v u Q I2 rx ry q) hm
def T0(t:TE):TT:=λU H Q=>t U H λx H'=>∃k,x = .bl k/\Q k H'
def IL(ho:kO X (De op) r)(ha:PE X a ta)(hb:PE X b tb)(hm:Dj op b=false):PT X (.Compare a [op] [b] pos) (T0 (yK r ta tb)):=by
 intro aa s U H Q I h
 refine wpAny_isTrue_Compare1 (jK (ha aa s U H _ I h) λv s1 x H1 I1 r1 q1=>jK (hb aa s1 U H1 _ I1 q1) λu s2 y H2 I2 r2 q2=>
  jK (ho aa s2 U H2 x y v u _ I2 r1 r2 q2) λc s3 z H3 I3 r3 ⟨k,e,q3⟩=>?_) hm
 subst e;cases r3;exact Dk ⟨H3,I3,q3⟩
def UO(r r':R2)(ta tb tc:TE):TE:=λU H Q=>ta U H λx H1=>tb U H1 λy H2=>r x y H2 λz H3=>∃k,z = .bl k /\
 (if k=true then tc U H3 λw' H4=>r' y w' H4 Q else Q (.bl false) H3)
theorem ϵ(ho:kO X (De op) r)(br:kO X (De op') r')(ha:PE X a ta)(hb:PE X b tb)(hc:PE X c tc)(hm:lastMarks [op,op'] [b,c]=false:=by with_unfolding_all rfl):PT X (.Compare a [op,op'] [b,c] pos) (T0 (UO r r' ta tb tc)):=by
 intro aa s U H Q I h
 refine isTrue_chain (jK (ha aa s U H _ I h) λv s1 x H1 I1 r1 q1=>test_link (jK (hb aa s1 U H1 _ I1 q1) λu s2 y H2 I2 r2 q2=>
  jK (ho aa s2 U H2 x y v u _ I2 r1 r2 q2) λd s3 z H3 I3 r3 ⟨k,e,q3⟩=>?_)) hm
 subst e;cases r3;refine Dk ?_
 cases k with
 |false=>obtain⟨k',e',q'⟩:=q3;cases e';exact ite_ff ⟨H3,I3,q'⟩
 |true=>refine ite_tt (test_last (jK (hc aa s3 U H3 _ I3 q3) λw' s4 z' H4 I4 r4 q4=>jK (br aa s4 U H4 y z' u w' _ I4 r2 r4 q4) λd' s5 z2 H5 I5 r5 ⟨k2,e2,q5⟩=>?_));subst e2;cases r5;exact Dk ⟨H5,I5,q5⟩
def U1(K:A5)(x:V)(H:Hp)(k:Bool):Prop:=
 match x with
 | .non=>k=false
 | .bl b=>k=b
 | .int i=>k=(i != 0)
 | .str y=>y.length<=sizeLine/\k=((y.length:Int) != 0)
 | .byt y=>y.size<=sizeLine/\k=((y.size:Int) != 0)
 | .ref p=>(∃xs,i7 K H p xs/\k = !xs.isEmpty)\/(∃xs,i8 K H p xs/\k = !xs.isEmpty)\/∃kvs,H p=some (.dK kvs)/\k = !kvs.isEmpty
 |_=>False
def Ā{κ:Type}{kvs:List (κ×V)}{vs:List (κ×A9)}(r:KV kvs vs):(!vs.isEmpty) = !kvs.isEmpty:=by cases r<;>rfl
def Qj(r:Y4 xs its):(!its.toArray.isEmpty) = !xs.isEmpty:=by cases r<;>simp
def xC:(sizeLine:Nat)<2 ^ 63:=by rw[Bk];decide
theorem ŭ:v3V X (λx H Q=>∃k,U1 X.K x H k/\Q k H):=by
 intro aa s U H x v Q I rx h;obtain⟨k,e,q⟩:=h;have hl:=xC;have hs:sizeLine=16777216:=Bk
 cases x with
 |non=>cases rx;have e':k=false:=e;subst e';exact truthy_none ⟨H,I,q⟩
 |bl b=>cases rx;have e':k=b:=e;subst e';exact Dk ⟨H,I,q⟩
 |int i=>obtain⟨t,rfl⟩:=rx;have e':k=(i != 0):=e;subst e';exact PySem.P.truthy_int ⟨H,I,q⟩
 |str y=>obtain⟨t,rfl⟩:=rx;obtain⟨hy,e'⟩:y.length<=sizeLine/\k=((y.length:Int) != 0):=e;subst e';exact PySem.P.truthy_str ⋯ ⟨H,I.tok _,q⟩
 |byt y=>obtain⟨t,rfl⟩:=rx;obtain⟨hy,e'⟩:y.size<=sizeLine/\k=((y.size:Int) != 0):=e;subst e';exact PySem.W.truthy_bytes ⋯ ⟨H,I.tok _,q⟩
 |ref p=>
  cases rx;have e':(∃xs,i7 X.K H p xs/\k = !xs.isEmpty)\/(∃xs,i8 X.K H p xs/\k = !xs.isEmpty)\/∃kvs,H p=some (.dK kvs)/\k = !kvs.isEmpty:=e;rcases e' with⟨xs,hx,e'⟩|⟨xs,hx,e'⟩|⟨kvs,hx,e'⟩
  .subst e';obtain⟨its,r,pl,hz⟩:=I.list hx;have ab:=r.length;exact wpAny_truthy_list pl.isList (by simp only[Af];omega) ⟨H,I.tok _,by rw[Qj r];exact q⟩
  .subst e';obtain⟨its,r,pl,hz⟩:=I.tuple hx;have ab:=r.length;exact truthy_tuple pl (by simp only[Af];omega) ⟨H,I.tok _,by rw[Qj r];exact q⟩
  .subst e';obtain⟨hz,hS,vs,r,m⟩:kvs.length<=sizeLine/\(p==G6)=false/\∃vs,KV kvs vs/\s.heap.DictOf (mX X.prog X.w) p vs:=I.hok p _ hx;have ab:kvs.length=vs.length:=Lv r;exact wpAny_truthy_dict hS m ⋯ ⟨H,I.tok _,by rw[Ā r];exact q⟩
 |_=>exact(show False from e).elim
def ϶(ha:PE X a ta)(he:∀aK,isTrue a X.env aK=(do let v <-aK;Lf a.pos;Hs [v] (Oj v))):
  PT X a (λU H Q=>ta U H λx H'=>∃k,U1 X.K x H' k/\Q k H'):=by
 intro aa s U H Q I h;exact isTrue_plain (jK (ha aa s U H _ I h) λv s1 x H1 I1 r1 q1=>ŭ aa s1 U H1 x v Q I1 r1 q1) (he _)
theorem l7{x:V}(r:Y4 [x] us):∃u,us=[u]/\f9 x u:=by
 cases r with
 |cons r1 r2=>cases r2;exact⟨_,rfl,r1⟩
theorem FN{x y:V}(r:Y4 [x,y] us):∃u w',us=[u,w']/\f9 x u/\f9 y w':=by
 cases r with
 |cons r1 r2=>
  cases r2 with
  |cons r3 r4=>cases r4;exact⟨_,_,rfl,r1,r3⟩
def Pe(hc:X.calm=true):lC X (.builtin "max") (λxs H Q=>∃i j,xs=[.int i,.int j]/\Q (.int (if j>i then j else i)) H):=by
 intro aa s U H xs us Q I r h;obtain⟨i,j,rfl,q⟩:=h;obtain⟨u,w',rfl,⟨t,rfl⟩,⟨t',rfl⟩⟩:=FN r;refine max_two_ints (I.ok.hd hc) λh' tk k=>⟨_,H,I.kept k,?_,q⟩;by_cases hj:j>i
 .rw[y6 hj,y6 hj];exact⟨_,rfl⟩
 .rw[y8 hj,y8 hj];exact⟨_,rfl⟩
def Pg(hc:X.calm=true):lC X (.builtin "min") (λxs H Q=>∃i j,xs=[.int i,.int j]/\Q (.int (if j<i then j else i)) H):=by
 intro aa s U H xs us Q I r h;obtain⟨i,j,rfl,q⟩:=h;obtain⟨u,w',rfl,⟨t,rfl⟩,⟨t',rfl⟩⟩:=FN r;refine min_two_ints (I.ok.hd hc) λh' tk k=>⟨_,H,I.kept k,?_,q⟩;by_cases hj:j<i
 .rw[y6 hj,y6 hj];exact⟨_,rfl⟩
 .rw[y8 hj,y8 hj];exact⟨_,rfl⟩
def XZ:lC X (.type "int") (λxs H Q=>(∃i,xs=[.int i]/\Q (.int i) H)\/∃k,xs=[.bl k]/\Q (.int (if k then 1 else 0)) H):=by
 intro aa s U H xs us Q I r h;rcases h with⟨i,rfl,q⟩|⟨k,rfl,q⟩
 .obtain⟨u,rfl,t,rfl⟩:=l7 r;exact call_int_int ⟨.int i,H,I,⟨_,rfl⟩,q⟩
 .obtain⟨u,rfl,r1⟩:=l7 r;cases r1;exact call_int_bool ⟨.int (if k then 1 else 0),H,I.tok _,⟨_,rfl⟩,q⟩
end
theorem pU.some_of{v:V}(r:pU (some v) o):∃u,o=some u/\f9 v u:=by
 cases o with
 |none=>exact(show False from r).elim
 |some u=>exact⟨u,rfl,r⟩
structure d8(k:Nat)(A:Bz):Prop where
 hd:A.handled=none
 dp:A.depth+3*k+5<recursionLimit
 un:A.units+16*k+200<D8
 gd:A.guards=some []
def d8.mono{j k:Nat}(r:d8 k A)(h:j<=k):d8 j A:=⟨r.hd,by have:=r.dp;omega,by have:=r.un;omega,r.gd⟩
def d8.deeper{k:Nat}(r:d8 (k+1) A)(env:O7):d8 k (A.deeper env):=
 ⟨r.hd,by have:=r.dp;show A.depth+1+3*k+5<_;omega,by have:=r.un;show A.units+3+16*k+200<_;omega,r.gd⟩
def d8.in1{k:Nat}(r:d8 (k+1) A):d8 k A.in1:=
 ⟨r.hd,by have:=r.dp;show A.depth+3*k+5<_;omega,by have:=r.un;show A.units+1+16*k+200<_;omega,r.gd⟩
def d8.depth(r:d8 k A):A.depth<recursionLimit:=by have:=r.dp;omega
def d8.units(r:d8 k A):A.units+64<D8:=by have:=r.un;omega
def d8.units0(r:d8 k A):A.units<D8:=by have:=r.un;omega
def FW:TA:=λ_ H Q=>Q [] H
def MG(ta:TE)(tr:TA):TA:=λU H Q=>ta U H λx H1=>tr U H1 λxs H2=>Q (x::xs) H2
section
variable{X:Cx}{e:Expr}{es:List Expr}{te:TE}{t:TA}{pos:Hi}
def Y5:PA X [] FW:=λ_ _ _ _ H Q I h=>Calls.spliced_nil ⟨[],H,I,.nil,h⟩
def J7(ha:PE X e te)(hr:PA X es t)(hs:Bt (e::es) X.env=(false,Ec e X.env)::Bt es X.env:=by rfl):PA X (e::es) (MG te t):=by intro pos aa s U H Q I h;rw[hs];show Ah _ _ (spliced ((false,Ec e X.env)::F0 pos (Bt es X.env))) _ _ s;refine Calls.spliced_cons (jK (ha aa s U H _ I h) λu s1 x H1 I1 r1 q1=>?_);exact jK (hr pos aa s1 U H1 _ I1 q1) λus s2 xs H2 I2 r2 q2=>⟨x::xs,H2,I2,.cons r1 r2,q2⟩
def v39(t:TA):TE:=λU H Q=>t U H λxs H1=>xs.length<=sizeLine/\∀p,H1 p=none->Q (.ref p) (upd H1 p (.tup xs))
def Vi(t:TA):TE:=λU H Q=>t U H λxs H1=>xs.length<=sizeLine/\∀p,H1 p=none->Q (.ref p) (upd H1 p (.lst xs))
def Ŋ{x1}(h:PA X es t):PE X (.Tuple es x1 pos) (v39 t):=by
 intro aa s U H Q I hq;refine wpAny_Tuple_spliced (jK (h pos aa s U H _ I hq) λus s1 xs H1 I1 r ⟨z,q⟩=>⟨by rw[<-r.length];exact z,?_⟩)
 have hf:H1 s1.heap.objs.size=none:=I1.hok.fresh (Ad _);refine⟨.ref s1.heap.objs.size,upd H1 s1.heap.objs.size (.tup xs),I1.laid (t':=s1.toks) (λb u e=>A8 _ e) (Ad _) ?_,rfl,q _ hf⟩;exact⟨z,us,r,⟨_,Ak _ rfl,rfl,⟨_,rfl⟩,rfl⟩⟩
def Uw(h:PA X es t):PE X (.List es pos) (Vi t):=by
 intro aa s U H Q I hq;refine wpAny_List_spliced (jK (h pos aa s U H _ I hq) λus s1 xs H1 I1 r ⟨z,q⟩=>⟨by rw[<-r.length];exact z,?_⟩)
 have hf:H1 s1.heap.objs.size=none:=I1.hok.fresh (Ad _);refine⟨.ref s1.heap.objs.size,upd H1 s1.heap.objs.size (.lst xs),I1.laid (t':=s1.toks) (λb u e=>A8 _ e) (Ad _) ?_,rfl,q _ hf⟩;exact⟨z,us,0,r,Ak _ rfl⟩
end
abbrev Sp:=List V->Hp->VK->XK->Prop
abbrev sZ:=List O7->Hp->Ae->XK->VP
structure sY(P:Bs)(w:Ce)(K:A5)(mg:Ba->Option A9)(base:Ch)(A:Bz)(outer:List O7)(s:Ae)(H:Hp):Prop where
 frames:A.frames=some outer
 mod:Mod K mg base
 bs:∀b o,base.get? b=some o->s.heap.get? b=some o/\H b=none
 bsz:base.objs.size<=s.heap.objs.size
 funs:s.heap.FunFrames base outer
 frf:∀b∈oT outer,H b=none
 hok:lF P w H s.heap
 bare:Ks s.gens
def CE(outer:List O7)(P:Bs)(w:Ce)(H:Hp)(s:Ae)(Q:VK)(u:A9)(s':Ae):Prop:=∃v H',s'.os=s.os/\Ks s'.gens/\Un (oT outer) [] H H' s.heap s'.heap/\lF P w H' s'.heap/\f9 v u/\Q v H'
def CR(CX:sZ)(outer:List O7)(P:Bs)(w:Ce)(H:Hp)(s:Ae)(Q:VK)(E:XK)(r:Kz)(s':Ae):Prop:=
 match r with
 | .ok (.ret u)=>CE outer P w H s Q u s'
 | .ok _=>False
 | .error e=>CX outer H s E e s'
structure kD(P:Bs)(w:Ce)(K:A5)(mg:Ba->Option A9)(base:Ch)(CX:sZ)(k:Nat)(f:As)(fd:Gt)(ps:List Ba)(sp:Sp):Prop where
 len:∀vs H Q E,sp vs H Q E->vs.length=ps.length
 run:∀(A:Bz) (outer:List O7) (s:Ae) (H:Hp) (args:Args) (us:List A9) (vs:List V) (Q:VK) (E:XK),d8 k A->sY P w K mg base A outer s H->Nx s fd args (ps.zip us)->Y4 vs us->sp vs H Q E ->
  Eu (Aw P w) A (.call (.ref f) args) (CR CX outer P w H s Q E) s
def kD.mono{P:Bs}{w:Ce}{K:A5}{mg:Ba->Option A9}{base:Ch}{CX:sZ}{j k:Nat}{f:As}{fd:Gt}{ps:List Ba}{sp:Sp}(F:kD P w K mg base CX j f fd ps sp)(h:j<=k):
  kD P w K mg base CX k f fd ps sp:=⟨F.len,λA outer s H args us vs Q E hr=>F.run A outer s H args us vs Q E (hr.mono h)⟩
def kD.imp{P:Bs}{w:Ce}{K:A5}{mg:Ba->Option A9}{base:Ch}{CX:sZ}{k:Nat}{f:As}{fd:Gt}{ps:List Ba}{sp sp':Sp}(F:kD P w K mg base CX k f fd ps sp)(h:∀vs H Q E,sp' vs H Q E->sp vs H Q E):kD P w K mg base CX k f fd ps sp':=
 ⟨λvs H Q E q=>F.len vs H Q E (h _ _ _ _ q),λA outer s H args us vs Q E hr he hb hv hs=>F.run A outer s H args us vs Q E hr he hb hv (h _ _ _ _ hs)⟩
section
variable{X:Cx}{aa:i6}{U:St}{H:Hp}{s s':Ae}
def a9.env0(I:a9 X aa U H s):sY X.prog X.w X.K X.mg X.base X.A X.stack s H:=
 ⟨I.ok.frames,I.ok.mod,I.bs,C7 I.ok.bsz I.sz,I.stack,I.stkFree,I.hok,I.bare⟩
def a9.after(I:a9 X aa U H s)(h:CE X.stack X.prog X.w H s Q u s'):EP X aa U Q u s':=by
 obtain⟨v,H',os,bare,un,hok,r,q⟩:=h;obtain⟨hh,g,d,t,os'⟩:=s'
 obtain rfl:os'=s.os:=os
 exact⟨v,H',I.call (h':=hh) (g':=g) (d':=d) (t':=t) (ch:=[]) un hok bare (λb z=>u3 z (by simp)),r,q⟩
end
def v19(sp:Sp)(fA:List V)(E:XK)(t:TA):TE:=λU H Q=>t U H λvs H1=>sp (vs++fA) H1 Q E
def uB(K:A5)(fd:Gt)(ps:List Ba)(ds:List A9):Prop:=∀(s:Ae) (us:List A9),K.In s.heap->(us++ds).length=ps.length->Nx s fd ⟨us,[]⟩ (ps.zip (us++ds))
def uB.all{K:A5}{fd:Gt}{ps:List Ba}(h:∀us:List A9,us.length=ps.length->Gu fd ⟨us,[]⟩=Ci (ps.zip us)):uB K fd ps []:=λs us _ hl=>by rw[Cr]at hl ⊢;exact .of_eq (h us hl)
def MI(CX:sZ)(X:Cx)(E:XK):Prop:=∀(aa:i6) (U:St) (H:Hp) (s:Ae) (e:A9) (s':Ae),a9 X aa U H s->CX X.stack H s E e s'->X.xe e s'
section
variable{X:Cx}{CX:sZ}{k:Nat}{f C:As}{fd:Gt}{ps:List Ba}{sp:Sp}{fA:List V}{ds:List A9}{E:XK}{x m:Ba}{p pos cX:Hi}{e o:Expr}{es:List Expr}{ta:TE}{t:TA}
theorem š(F:kD X.prog X.w X.K X.mg X.base CX k f fd ps sp)(hr:d8 k X.A)(hb:uB X.K fd ps ds)(hd:Y4 fA ds)(hx:MI CX X E)(I:a9 X aa U H s)(r:Y4 vs us)(h:sp (vs++fA) H Q E):Ah (Aw X.prog X.w) X.A (call (.ref f) us) (EP X aa U Q) X.xe s:=by
 have r2:Y4 (vs++fA) (us++ds):=r.append hd
 have hl:(us++ds).length=ps.length:=by rw[<-r2.length];exact F.len _ _ _ _ h
 refine Ol (codeAny_mono (F.run X.A X.stack s H ⟨us,[]⟩ (us++ds) (vs++fA) Q E hr I.env0 (hb s us I.kIn hl) r2 h) λr s' hq=>?_)
 cases r with
 |error e=>exact hx aa U H s e s' I hq
 |ok fl=>
  cases fl with
  |ret u=>exact I.after hq
  |next=>exact G7 hq
  |brk=>exact G7 hq
  |cont=>exact G7 hq
def RH(F:kD X.prog X.w X.K X.mg X.base CX k f fd ps sp)(hr:d8 k X.A)(hg:Gl X x)(hm:X.mg x=some (.ref f))(hk:Fh X.K (.ref f)=true)(hb:uB X.K fd ps ds)(hd:Y4 fA ds)(hx:MI CX X E)(ha:PA X (e::es) t)(bG:(x==("__debug__":Ba))=false:=by decide)(he:Bt (e::es) X.env=(false,Ec e X.env)::Bt es X.env:=by rfl)(au:(F0 pos (Bt es X.env)).any (·.1)=false:=by rfl):
  PE X (.Call (.Name x p) (e::es) [] pos) (v19 sp fA E t):=by
 intro aa s U H Q I h;refine Ex (Rw I hg hm ?_ bG);refine PySem.W.callWith_K (h₀:=X.base) I.ok.mod.kin hk (jK (ha pos aa s U H _ I h) λus s1 vs H1 I1 r q=>⟨I1.kIn,?_⟩) he au;exact š F hr hb hd hx I1 r q
end
structure jD(N P:List Ba)(sc:Scope):Prop where
 kind:sc.kind = .function
 co:sc.isCoroutine=false
 gen:sc.isGenerator=false
 nd:N.Nodup
 pre:N.take P.length=P
 par:∀x∈P,sc.names.lookup x=some .local\/sc.names.lookup x=some .cell
 nofree:∀y∈sc.names,y.2≠.free
theorem Pc{kindOf:Ba->Option Hk}{x:Ba}:∀{binds:List (Ba×A9)} {m:Ba->Option A9},(∀v,(x,v)∉binds)->Om kindOf binds m x=m x
 | [],_,_=>rfl
 | (n,v)::r,m,h=>by
  unfold Om;rw[Pc λw hw=>h w (A7 _ hw)];split
  .have:x≠n:=by rintro rfl;exact h v A6
   simp[this]
  .rfl
theorem Pa{kindOf:Ba->Option Hk}{x:Ba}:∀{binds:List (Ba×A9)} {m:Ba->Option A9},(∀v,(x,v)∉binds)->On kindOf binds m x=m x
 | [],_,_=>rfl
 | (n,v)::r,m,h=>by
  unfold On;rw[Pa λw hw=>h w (A7 _ hw)];split
  .rfl
  .have:x≠n:=by rintro rfl;exact h v A6
   simp[this]
theorem Pb{kindOf:Ba->Option Hk}{x:Ba}{v:A9}:∀{P:List Ba} {vs:List A9} {i:Nat} {m:Ba->Option A9},P.Nodup->P[i]?=some x->vs[i]?=some v->kindOf x=some .local ->
  Om kindOf (P.zip vs) m x=some v
 | [],_,_,_,_,h,_,_=>by simp at h
 |_::_,[],_,_,_,_,h,_=>by simp at h
 |p::P,w::vs,0,m,nd,h1,h2,hk=>by simp at h1 h2;subst h1;subst h2;show Om kindOf ((p,w)::P.zip vs) m p=_;unfold Om;rw[Pc λv hv=>(By.mp nd).1 (Ij hv).1,y6 hk];simp
 |p::P,w::vs,i+1,m,nd,h1,h2,hk=>by show Om kindOf ((p,w)::P.zip vs) m x=_;unfold Om;exact Pb (i:=i) (By.mp nd).2 (by simpa using h1) (by simpa using h2) hk
theorem OZ{kindOf:Ba->Option Hk}{x:Ba}{v:A9}:∀{P:List Ba} {vs:List A9} {i:Nat} {m:Ba->Option A9},P.Nodup->P[i]?=some x->vs[i]?=some v->kindOf x≠some .local ->
  On kindOf (P.zip vs) m x=some v
 | [],_,_,_,_,h,_,_=>by simp at h
 |_::_,[],_,_,_,_,h,_=>by simp at h
 |p::P,w::vs,0,m,nd,h1,h2,hk=>by simp at h1 h2;subst h1;subst h2;show On kindOf ((p,w)::P.zip vs) m p=_;unfold On;rw[Pa λv hv=>(By.mp nd).1 (Ij hv).1,y8 hk];simp
 |p::P,w::vs,i+1,m,nd,h1,h2,hk=>by show On kindOf ((p,w)::P.zip vs) m x=_;unfold On;exact OZ (i:=i) (By.mp nd).2 (by simpa using h1) (by simpa using h2) hk
def start(N:List Ba)(vs:List V):St:=vs.map some++Bf (N.length-vs.length) none
def oQ(CX:sZ)(P:Bs)(w:Ce)(K:A5)(mg:Ba->Option A9)(base:Ch)(N:List Ba)(qual:Ba)(scope:Scope)(f:As)(cd:A9)(A:Bz)(outer:List O7)(s:Ae)(H:Hp)(E:XK):Cx where
 prog:=P
 w:=w
 K:=K
 mg:=mg
 base:=base
 A:=A.deeper (Jr qual scope s.heap.objs.size f cd)
 N:=N
 s₀:=s
 H₀:=H
 env:=Jr qual scope s.heap.objs.size f cd
 outer:=outer
 stack:=Jr qual scope s.heap.objs.size f cd::outer
 ex:=[]
 calm:=true
 fn:=λ_=>true
 pn:=[]
 xe:=λe s'=>Ah (Aw P w) (A.deeper (Jr qual scope s.heap.objs.size f cd)) (leaving (Jr qual scope s.heap.objs.size f cd) e) (λ_ bu=>CX outer H s E e bu) (λe' bu=>CX outer H s E e' bu) s'
def Sh{sc:Scope}(h:sc.names.lookup x=some .cell):∃c,(Ht n sc.names []).lookup x=some c:=by have q:=PySem.W.cellsFrom_some sc.names n [] (.inl h);exact Ds.mp q
def Yi{CX:sZ}{P:Bs}{w:Ce}{K:A5}{mg:Ba->Option A9}{base:Ch}{N ps:List Ba}{qual:Ba}{scope:Scope}{f:As}{cd:A9}{A:Bz}{outer:List O7}{s s1:Ae}{H:Hp}{E:XK}{us:List A9}{vs:List V}(S:jD N ps scope)(hd:A.handled=none)(e0:sY P w K mg base A outer s H)(hl:vs.length=ps.length)(r:Y4 vs us)(x:InCallC s s.heap.objs.size (Om (Jr qual scope s.heap.objs.size f cd).kindOf (ps.zip us) λ_=>none) (Ht (s.heap.objs.size+1) scope.names []) (On (Jr qual scope s.heap.objs.size f cd).kindOf (ps.zip us) λ_=>none) s1):
  a9 (oQ CX P w K mg base N qual scope f cd A outer s H E) [] (start N vs) H s1:=by
 have au:ps.length<=N.length:=by have:=lE Kb S.pre;rw[Eg]at this;omega
 obtain⟨h1,tk,rfl,hk⟩:=x.done;have eW:∀b:As,b∉(oQ CX P w K mg base N qual scope f cd A outer s H E).ex:=λb z=>u3 (show b∈([]:List As) from z) (by simp)
 refine⟨⟨e0.mod,S.kind,rfl,rfl,Ad _,λy z c h1 h2=>?_,λy hy=>?_,λy c _ h=>?_,λ_=>hd,Bz.frames_deeper e0.frames,.inr ⟨rfl,rfl⟩,λb z=>u3 z (eW b),e0.bs,e0.bsz,λb _ _=>eW b,λb z=>u3 z (eW b),e0.funs,e0.frf⟩,
  rfl,e0.bare,Un.kept hk,⟨_,x.toInCall.ns,λi y v h1 h2 h3=>?_⟩,λy c h=>⟨_,x.cell y c h⟩,e0.hok.fresh (Ad _),λy c h=>?_,λp hp=>u3 (show p∈([]:i6) from hp) (by simp),e0.hok.kept hk,?_⟩
 .exact name_of_addr x.apart (Cc h1) (Cc h2)
 .have hy:scope.names.lookup y=some .cell\/scope.names.lookup y=some .free:=hy;rcases hy with hy|hy
  .exact Sh hy
  .exact u3 rfl (S.nofree _ (Cc hy))
 .exact Dc (x.above y c (Cc h))
 .have hi:i<vs.length:=by
   unfold start at h2;by_cases hi:i<vs.length
   .exact hi
   .rw[Fi (by simpa using hi)]at h2;rw[List.getElem?_replicate]at h2;split at h2<;>cases h2
  have ha:vs[i]?=some v:=by
   unfold start at h2;rw[Do (by simpa using hi),Ao]at h2
   cases e:vs[i]? with
   |none=>rw[e]at h2;cases h2
   |some a=>rw[e]at h2;cases h2;rfl
  obtain⟨u,hu,rv⟩:=r.get ha
  have hp:ps[i]?=some y:=by rw[<-S.pre,List.getElem?_take_of_lt ⋯];exact h1
  have ndP:ps.Nodup:=by rw[<-S.pre];exact S.nd.sublist (Lg _ _)
  refine⟨u,rv,?_⟩;rcases S.par y (C6 hp) with k|k
  .exact .inl ⟨k,Pb ndP hp hu k⟩
  .obtain⟨c,e⟩:=Sh (n:=s.heap.objs.size+1) k;refine .inr ⟨.inl k,c,e,?_⟩;have q:=x.cell y c e;rw[OZ ndP hp hu (by show scope.names.lookup y≠_;rw[k];decide)]at q
   exact q
 .exact e0.hok.fresh (Dc (x.above y c (Cc h)))
 .unfold start;show _=N.length;rw[Ap,A3,Jp];omega
theorem Vl{K:A5}{dV kV az pm ah ct oc:A9}{an od:Option As}{dB:Array (Option A9)}{sp:Sp}(lk:K.lookup f=some ⟨oc,od,.func (E3 name qual params body scope dV kV az pm an ah ct),dB⟩)(aO:Iy K ah qual=true)(S:jD N ps scope)(len:∀vs H Q E,sp vs H Q E->vs.length=ps.length)
  (ap:∀(A:Bz) (outer:List O7) (s:Ae) (H:Hp) (vs:List V) (Q:VK) (E:XK),d8 k (A.deeper (Jr qual scope s.heap.objs.size f ah))->sp vs H Q E ->
   ∃t,nI (oQ CX P w K mg base N qual scope f ah A outer s H E) body t/\t { nx:=λ_ H'=>Q .non H',rt:=Q } (start N vs) H):
  kD P w K mg base CX (k+1) f (E3 name qual params body scope dV kV az pm an ah ct) ps sp:=by
 refine⟨len,λA outer s H args us vs Q E hr e0 hb r du=>?_⟩;have hl:=len _ _ _ _ du;have KX:K.In s.heap:=e0.mod.kin.keeps λb o e=>(e0.bs b o e).1;have lim:s.heap.NoLimit:=e0.mod.nolimit.keeps λb o e=>(e0.bs b o e).1
 have dE:∀y∈ps.zip us,scope.names.lookup y.1=some .local\/(scope.names.lookup y.1=some .cell/\((Ht (s.heap.objs.size+1) scope.names []).lookup y.1).isSome=true):=λ⟨n,v⟩ hy=>by
  rcases S.par n (Ij hy).1 with q|q
  .exact .inl q
  .exact .inr ⟨q,PySem.W.cellsFrom_some _ _ _ (.inl q)⟩
 refine codeAny_call_function hr.depth (KX _ _ lk) rfl S.co S.gen rfl (PySem.W.codeRec_of KX aO) (hb _ _ _ _ ?_);refine wpAny_newFunctionEnv_cells S.kind dE λenv he s1 x=>?_;subst he;refine⟨lim.keeps x.toInCall.keep,codeAny_func ?_⟩;obtain⟨t,ht,hq⟩:=ap A outer s H vs Q E (hr.deeper _) du;have I:a9 (oQ CX P w K mg base N qual scope f ah A outer s H E) [] (start N vs) H s1:=Yi S hr.hd e0 hl r x
 refine Cm (ht [] s1 (start N vs) H _ I hq) (λfl s' hs=>?_) λe s' hs=>hs
 have fin:∀{U':St} {H':Hp} {v:V} {u:A9},a9 (oQ CX P w K mg base N qual scope f ah A outer s H E) [] U' H' s'->f9 v u->Q v H'->CE outer P w H s Q u s':=λ{U' H' v u} J rv q=>⟨v,H',J.os,J.bare,J.base,J.hok,rv,q⟩
 cases fl with
 |ret u=>obtain⟨v,U',H',J,rv,q⟩:=hs;exact fin J rv q
 |next=>obtain⟨U',H',J,q⟩:=hs;exact fin (v:=V.non) (u:=Bx) J rfl q
 |brk=>obtain⟨_,_,_,q⟩:=hs;exact G7 q
 |cont=>obtain⟨_,_,_,q⟩:=hs;exact G7 q
section
variable{X:Cx}{x:Ba}{p pos:Hi}{e:Expr}{es:List Expr}{t:TA}{id T:String}{r:List V->Hp->VK->Prop}
def FY(r:List V->Hp->VK->Prop)(t:TA):TE:=λU H Q=>t U H λvs H1=>r vs H1 Q
def tW(hc:lC X (.builtin id) r)(hg:Gl X x)(hm:X.mg x=none)(hv:Db x=some (.builtin id))(ha:PA X (e::es) t)(hn:x≠"__name__":=by decide)(bG:(x==("__debug__":Ba))=false:=by decide)(he:Bt (e::es) X.env=(false,Ec e X.env)::Bt es X.env:=by rfl)(au:(F0 pos (Bt es X.env)).any (·.1)=false:=by rfl):PE X (.Call (.Name x p) (e::es) [] pos) (FY r t):=by intro aa s U H Q I h;refine Ex (pN I hg hm hv ?_ hn bG);exact PyProof.Rows.callWith_builtin1 (jK (ha pos aa s U H _ I h) λus s1 vs H1 I1 r1 q1=>hc aa s1 U H1 vs us Q I1 r1 q1) he au
def oN(hc:lC X (.type T) r)(hg:Gl X x)(hm:X.mg x=none)(hv:Db x=some (.type T))(ha:PA X (e::es) t)(hn:x≠"__name__":=by decide)(bG:(x==("__debug__":Ba))=false:=by decide)(he:Bt (e::es) X.env=(false,Ec e X.env)::Bt es X.env:=by rfl)(au:(F0 pos (Bt es X.env)).any (·.1)=false:=by rfl):PE X (.Call (.Name x p) (e::es) [] pos) (FY r t):=by intro aa s U H Q I h;refine Ex (pN I hg hm hv ?_ hn bG);exact Ek (jK (ha pos aa s U H _ I h) λus s1 vs H1 I1 r1 q1=>hc aa s1 U H1 vs us Q I1 r1 q1) he au
end
end L2
namespace HT
open PySem PyProof.Rows
def lexLt:List Int->List Int->Bool
 | [],[]=>false
 | [],_::_=>true
 |_::_,[]=>false
 |x::xs,y::ys=>if x=y then lexLt xs ys else decide (x<y)
def lexLt_cons(x y:Int)(xs ys:List Int):lexLt (x::xs) (y::ys)=if x=y then lexLt xs ys else decide (x<y):=rfl
def lexLt_nil_nil:lexLt [] []=false:=rfl
def ON(y:Int)(ys:List Int):lexLt [] (y::ys)=true:=rfl
def OM(x:Int)(xs:List Int):lexLt (x::xs) []=false:=rfl
def Sm(A:Bz)(s:Ae)(a:Int)(t:Tok)(c:Int)(u:Tok):∃e,No A s (.int a t) (.int c u) e/\(e=true↔a=c):=
 ⟨(a==c),No.int_int a t c u,by simp⟩
def Ϲ(A:Bz)(s:Ae)(a:Int)(t:Tok)(c:Int)(u:Tok)(prog:Bs)(w:Ce)(E:VP)(Q:VP)(h:Q (.bool (decide (a<c))) s):
  Ah (Aw prog w) A (Gm .Lt (.int a t) (.int c u)) Q E s:=
 (PyProof.Rows.lt_int h:Ah (Aw prog w) A (De .Lt (.int a t) (.int c u)) Q E s)
section
open PySem.SeqAt
open PySem.AutoSeq1 (wpAny_loadPart')
open PySem.MeetsSeq PySem.MeetsSeq2 PySem.MeetsSeq3
def Xr(l b:As)(items ao:Array A9)(n n2:Nat)(dd cB:Option As)(sl cM:Array (Option A9))(ns ms:List Int)(hi:Cj items.toList ns)(hj:Cj ao.toList ms):
  Oo (C1.«tuple.__lt__» ⟨[.ref l,.ref b],[]⟩)
   (λ_ R s=>s.heap.get? l=some { cls:=.type "tuple",dict:=dd,data:=.seq items n,slots:=sl }/\s.heap.get? b=some { cls:=.type "tuple",dict:=cB,data:=.seq ao n2,slots:=cM } /\
    R (.ok (.ret (.bool (lexLt ns ms)))) s):=
 .of_wp λprog w A R s h=>by
  obtain⟨hp,g,d,tk,os⟩:=s;obtain⟨hl,hb,h⟩:=h;have f2:=AutoSeq1.sub_tuple_tuple
  have z1:items.size=ns.length:=by rw[<-hi.length];simp
  have z2:ao.size=ms.length:=by rw[<-hj.length];simp
  wp_walk using Gv hl,Gv hb,Gd _ (λrest b s'=>b.1=none/\s'=⟨hp,g,d,tk,os⟩/\∃(vs ws:List A9) (bH aP:List Int),rest=vs.zip ws /\
   Cj vs bH/\Cj ws aP/\bH.length+ao.size=aP.length+items.size/\R (.ok (.ret (.bool (lexLt bH aP)))) ⟨hp,g,d,tk,os⟩) _
  case turn=>
   rintro ⟨y,x⟩ rest b s' ⟨aW,rfl,vs,ws,bH,aP,hz,fJ,eE,ab,hR⟩
   cases fJ with
   |nil=>rw[List.zip_nil_left]at hz;cases hz
   |cons a t hvi'=>
    cases eE with
    |nil=>rw[L0]at hz;cases hz
    |cons c u hwi'=>
     rw[Ey]at hz;injection hz with hyx bM;injection hyx with hy hx;subst hy hx;rw[lexLt_cons]at hR;simp only[Au]at ab;obtain⟨e,he,dN⟩:=Sm A.in1 ⟨hp,g,d,tk,os⟩ a t c u;refine A0 (he prog w _ _ ?_)
     cases e with
     |true=>
      rw[y6 (dN.mp rfl)]at hR
      wp_walk
      exact⟨rfl,rfl,_,_,_,_,bM,hvi',hwi',⋯,hR⟩
     |false=>
      rw[y8 (λq=>u3 (dN.mpr q) Ay)]at hR;have hri:=Ϲ A.in1 ⟨hp,g,d,tk,os⟩ a t c u prog w
      wp_walk using hri
      exact⟨_,rfl,by simpa using hR⟩
  case fin=>
   rintro ⟨b1,b2⟩ s' ⟨aW,rfl,vs,ws,bH,aP,hz,fJ,eE,ab,hR⟩;simp only at aW;subst aW
   have hv:lexLt bH aP=decide (items.size<ao.size):=by
    cases fJ with
    |nil=>
     cases eE with
     |nil=>simp only[Ed]at ab;rw[lexLt_nil_nil];exact(W4 ⋯).symm
     |cons c u hw=>simp only[Ed,Au]at ab;rw[ON];exact(Y1 ⋯).symm
    |cons a t hv=>
     cases eE with
     |nil=>simp only[Ed,Au]at ab;rw[OM];exact(W4 ⋯).symm
     |cons c u hw=>rw[Ey]at hz;cases hz
   rw[hv]at hR
   wp_walk
   exact⟨_,rfl,by simpa [C1.Tuple.tupleCompareSizes] using hR⟩
  case h=>exact⟨rfl,rfl,items.toList,ao.toList,ns,ms,rfl,hi,hj,⋯,h⟩
end
section
variable{prog:Bs}{w:Ce}{A:Bz}{E:VP}{s:Ae}
def lt_tupInts{Q:VP}(hl:Jo s.heap l items)(hb:Jo s.heap b ao)(hi:Cj items.toList ns)(hj:Cj ao.toList ms)(hu:A.units<D8)(h:Q (.bool (lexLt ns ms)) s):Ah (Aw prog w) A (De .Lt (.ref l) (.ref b)) Q E s:=by
 obtain⟨⟨cls,dd,data,sl⟩,ho,hc,n,hd⟩:=id hl;obtain⟨⟨eO,cB,data2,cM⟩,ce,aY,n2,bw⟩:=id hb;simp only at hc hd aY bw;subst hc hd aY bw
 exact richCompare_meets_room (op:=.Lt) ⟨_,ho,rfl⟩ ⟨_,ce,rfl⟩ PySem.F.slot_tuple_lt PySem.F.entry_tuple_lt (PySem.F.args_tuple_lt_2 _ _) (Xr l b items ao n n2 dd cB sl cM ns ms hi hj)
  ⟨ho,ce,show Np (lexLt ns ms)≠Kc/\Q (.bool (lexLt ns ms)) s from ⟨(λx=>nomatch x),h⟩⟩ hu
def cat_tup{vs ws:List A9}{Q:VP}(ht:Jo s.heap t vs.toArray)(hb:Jo s.heap b ws.toArray)(hv:vs≠[])(h1:ws=[]->Q (.ref t) s)(h2:ws≠[]->Q (.ref s.heap.objs.size) { s with heap:=s.heap.push { cls:=.type "tuple",data:=.seq (vs++ws).toArray } })(hsz:vs.length+ws.length<=sizeLine):Ah (Aw prog w) A (Hj .Add (.ref t) (.ref b)) Q E s:=by
 obtain⟨⟨cls,dd,data,sl⟩,ho,hc,n,hd⟩:=id ht;obtain⟨⟨eO,cB,data2,cM⟩,ce,aY,n2,bw⟩:=id hb;simp only at hc hd aY bw;subst hc hd aY bw
 have e:vs.toArray++ws.toArray=(vs++ws).toArray:=by simp
 by_cases hw:ws=[]
 .exact Mn ⟨_,ho,rfl⟩ ⟨_,ce,rfl⟩ M8 Nh Iz Ir (If _ _)
   (tuple_addW1 t b vs.toArray ws.toArray n n2 dd cB sl cM (by simpa using hv) (by simp[hw])) ⟨ho,ce,h1 hw⟩
 .refine Mn ⟨_,ho,rfl⟩ ⟨_,ce,rfl⟩ M8 Nh Iz Ir (If _ _)
   (tuple_addW2 t b vs.toArray ws.toArray n n2 dd cB sl cM (by simpa using hv) (by simpa using hw) (by rw[Af,Af];exact hsz)) ⟨ho,ce,?_⟩
  rw[e];exact h2 hw
def sIx(n d:Nat):Option Int->Nat
 |none=>d
 |some v=>if v<0 then (v+(n:Int)).toNat else Mw v.toNat n
def sIx_nat(n d k:Nat):sIx n d (some (k:Int))=Mw k n:=by show (if (k:Int)<0 then ((k:Int)+(n:Int)).toNat else Mw (k:Int).toNat n)=Mw k n;rw[y8 ⋯,Av]
theorem UI(n d:Nat)(hd:d<=n)(o:Option Int):sIx n d o<=n:=by
 cases o with
 |none=>exact hd
 |some v=>
  show (if v<0 then (v+(n:Int)).toNat else Mw v.toNat n)<=n;by_cases hv:v<0
  .rw[y6 hv];omega
  .rw[y8 hv];exact Nat.min_le_right _ _
def QZ(v:Int)(n d:Nat):(if v<0 then max (v+(n:Int)) 0 else Mw v (n:Int))=((sIx n d (some v):Nat):Int):=by
 show (if v<0 then max (v+(n:Int)) 0 else Mw v (n:Int))=(((if v<0 then (v+(n:Int)).toNat else Mw v.toNat n):Nat):Int);by_cases hv:v<0
 .simp only[if_pos hv];omega
 .simp only[if_neg hv];omega
def Zr(lo hi:Option Int)(n:Nat):Hy lo hi 1 (n:Int)=(((sIx n 0 lo:Nat):Int),((sIx n n hi:Nat):Int)):=by
 have h1:¬((1:Int)<0):=by omega
 unfold Hy;simp only[h1,if_false];refine Op ?_ ?_
 .cases lo with
  |none=>rfl
  |some v=>exact QZ v n 0
 .cases hi with
  |none=>rfl
  |some v=>exact QZ v n n
def ć(i j:Nat):Dp (i:Int) (j:Int) 1=j-i:=by
 unfold Dp
 have h1:(1:Int)>0:=by omega
 simp only[h1,if_true,Int.ediv_one]
 split<;>omega
theorem zI{Q:Option Int->Ae->Prop}(p:L1 v o)(h:Q o s):Ah (Aw prog w) A (C1.Slice.slicePartIndex v) Q E s:=by
 cases p with
 |none=>exact slicePart_none h
 |int i t=>exact slicePart_int h
def OT{sl:As}{vl vu:A9}{lo hi:Option Int}{n:Nat}{Q:Int×Int×Nat->Ae->Prop}(hs:s.heap.IsSliceOf sl vl vu .none)(pl:L1 vl lo)(pu:L1 vu hi)(h:Q (((sIx n 0 lo:Nat):Int),1,sIx n n hi-sIx n 0 lo) s):Ah (Aw prog w) A (Fj (.ref sl) (Ci (n:Int))) Q E s:=by
 obtain⟨os,cV,dv,cS⟩:=id hs;unfold Fj C1.Slice.sliceFields;refine A0 (A0 (Dt cV cS (x:=vl) rfl (A0 (Dt cV cS (x:=vu) rfl (A0 (Dt cV cS (x:=.none) rfl (x6 ?_)))))));refine A0 (slicePart_none ?_);show Ah _ _ (if ((1:Int)==0)=true then _ else _) _ _ s;rw[y8 ∅];refine A0 (zI pl (A0 (zI pu (A0 (x6 ?_)))))
 show Ah _ _ (match Hy lo hi 1 (n:Int) with|(lo,hi)=>Ci (lo,(1:Int),Dp lo hi 1)) _ _ s;rw[Zr lo hi n];show Ah _ _ (Ci (((sIx n 0 lo:Nat):Int),(1:Int),Dp ((sIx n 0 lo:Nat):Int) ((sIx n n hi:Nat):Int) 1)) _ _ s;rw[ć];exact x6 h
def ϰ(xs:Array A9)(i k:Nat):((Aa k).filterMap λ(m:Nat)=>xs[((i:Int)+(m:Int)*1).toNat]?).toArray=((xs.toList.drop i).take k).toArray:=by
 have e:(λ(m:Nat)=>xs[((i:Int)+(m:Int)*1).toNat]?)=λm=>xs[i+m]?:=by
  funext m
  have:((i:Int)+(m:Int)*1).toNat=i+m:=by omega
  rw[this]
 rw[e]
 have:=pick_run xs i k
 rw[List.filterMap_map]at this;have e2:((λx=>xs[x]?)∘λx=>i+x)=λm=>xs[i+m]?:=rfl;rw[e2]at this;rw[this]
def getItem_tuple_cut{t sl:As}{items:Array A9}{vl vu:A9}{lo hi:Option Int}{Q:VP}(ht:Jo s.heap t items)(hs:s.heap.IsSliceOf sl vl vu .none)(pl:L1 vl lo)(pu:L1 vu hi)(hw:¬(sIx items.size 0 lo=0/\sIx items.size items.size hi=items.size))(h:Q (.ref s.heap.objs.size) { s with heap:=s.heap.push { cls:=.type "tuple",data:=.seq ((items.toList.drop (sIx items.size 0 lo)).take (sIx items.size items.size hi-sIx items.size 0 lo)).toArray } })(hsz:items.size<=sizeLine):Ah (Aw prog w) A (Ja (.ref t) (.ref sl)) Q E s:=by
 have bx:sizeOk (.seq ((items.toList.drop (sIx items.size 0 lo)).take (sIx items.size items.size hi-sIx items.size 0 lo)).toArray):=by show ((items.toList.drop (sIx items.size 0 lo)).take (sIx items.size items.size hi-sIx items.size 0 lo)).toArray.size<=sizeLine;rw[Af,Eg,Ff,Ar];omega
 have hj:sIx items.size items.size hi<=items.size:=UI _ _ (Ad _) hi;obtain⟨os,cV,dv,cS⟩:=id hs;have iA:s.TypeIs (.ref sl) "slice":=⟨os,cV,dv⟩;unfold Ja
 try with_reducible refine Ca ?_
 first|refine A0 (x6 ?_)|skip
 refine A0 (Lh ht.typeIs ∅ ?_)
 refine A0 (Cy (name:=Bl "__getitem__") ht.typeIs C3
  (Ct C3 ht.typeIs Kq ?_ (L4 _ _)))
 show Ah _ _ (Hl (.ref t) >>= _) _ _ s;refine A0 (Ni ht ?_);refine A0 (F9 iA ?_);rw[y6 ∅];refine A0 (OT hs pl pu ?_)
 have cp:¬((((sIx items.size 0 lo:Nat):Int)==0&&(1:Int)==1&&(sIx items.size items.size hi-sIx items.size 0 lo)==items.size)=true):=by intro q;rw[B8,B8]at q;have q1:((sIx items.size 0 lo:Nat):Int)=0:=eq_of_beq q.1.1;have q2:sIx items.size items.size hi-sIx items.size 0 lo=items.size:=eq_of_beq q.2;exact hw ⟨⋯,⋯⟩
 show Ah _ _ (if (((sIx items.size 0 lo:Nat):Int)==0&&(1:Int)==1&&(sIx items.size items.size hi-sIx items.size 0 lo)==items.size)=true then _ else _) _ _ s;rw[y8 cp,ϰ]
 first
  |exact A0 (m:=Cz0 _) (Bc (x6 ⟨_,rfl,x6 h⟩) bx)
  |exact A0 (m:=Cz0 _) (Bc (A0 (x6 (x6 ⟨_,rfl,x6 h⟩))) bx)
  |exact A0 (A0 (m:=Cz0 _) (Bc (x6 (x6 ⟨_,rfl,x6 h⟩)) bx))
  |exact A0 (A0 (m:=Cz0 _) (Bc (x6 ⟨_,rfl,x6 h⟩) bx))
end
end HT
namespace L2
open PySem PySem.Spec PyProof.Rows
abbrev TO:=St->Hp->(Option Int->Hp->Prop)->Prop
def PO(X:Cx)(e:Option Expr)(t:TO):Prop:=
 ∀(aa:i6) (s:Ae) (U:St) (H:Hp) (Q:Option Int->Hp->Prop),a9 X aa U H s->t U H Q ->
  Ah (Aw X.prog X.w) X.A (evalPart e X.env) (λu s'=>∃o H',a9 X aa U H' s'/\L1 u o/\Q o H') X.xe s
def ñ:TO:=λ_ H Q=>Q none H
def v15(t:TE):TO:=λU H Q=>t U H λx H1=>∃i,x = .int i/\Q (some i) H1
theorem Z3{ns:List Int}:∀{us:List A9},Y4 (ns.map V.int) us->Cj us ns:=by
 induction ns with
 |nil=>intro us r;rw[Go]at r;cases r;exact .nil
 |cons n ns ih=>
  intro us r;rw[Ai]at r
  cases r with
  |cons r1 r2=>obtain⟨t,e⟩:=r1;subst e;exact .cons n t (ih r2)
section
variable{X:Cx}{e:Expr}{te:TE}{lo hi:Option Expr}{tl th:TO}{pos p2:Hi}
def Ñ:PO X none ñ:=by intro aa s U H Q I h;rw[Nj];exact x6 ⟨none,H,I,.none,h⟩
def Ò(h:PE X e te):PO X (some e) (v15 te):=by intro aa s U H Q I hw;rw[evalPart_some];refine jK (h aa s U H _ I hw) λu s1 x H1 I1 r1 q1=>?_;obtain⟨i,rfl,q⟩:=q1;obtain⟨t,rfl⟩:=r1;exact⟨some i,H1,I1,.int i t,q⟩
def uM(X:Cx)(r:V->Option Int->Option Int->Hp->VK->Prop):Prop:=
 ∀(aa:i6) (s:Ae) (U:St) (H:Hp) (x:V) (v vl vu:A9) (lo hi:Option Int) (sl:As) (Q:VK),a9 X aa U H s->f9 x v->s.heap.IsSliceOf sl vl vu .none->L1 vl lo->L1 vu hi->r x lo hi H Q ->
  ∃T id,L5 (.type T) "__getitem__" = Ci (some (.builtin id))/\s.TypeIs v T/\Ah (Aw X.prog X.w) X.A (Ja v (.ref sl)) (EP X aa U Q) X.xe s
def uM.or(h:uM X r)(h':uM X r'):uM X (λx lo hi H Q=>r x lo hi H Q\/r' x lo hi H Q):=by
 intro aa s U H x v vl vu lo hi sl Q I rx hs pl pu q;rcases q with q|q
 .exact h aa s U H x v vl vu lo hi sl Q I rx hs pl pu q
 .exact h' aa s U H x v vl vu lo hi sl Q I rx hs pl pu q
def tSl(r:V->Option Int->Option Int->Hp->VK->Prop)(te:TE)(tl th:TO):TE:=λU H Q=>te U H λx H1=>tl U H1 λl H2=>th U H2 λu H3=>r x l u H3 Q
def S7(hr:uM X r)(he:PE X e te)(hl:PO X lo tl)(hu:PO X hi th):PE X (.Subscript e (.Slice lo hi none p2) pos) (tSl r te tl th):=by
 intro aa s U H Q I h;refine Nr (jK (he aa s U H _ I h) λv s1 x H1 I1 r1 q1=>?_);refine wpAny_Slice (jK (hl aa s1 U H1 _ I1 q1) λvl s2 l H2 I2 pl q2=>jK (hu aa s2 U H2 _ I2 q2) λvu s3 u H3 I3 pu q3=>?_);rw[Nj];refine x6 ?_;have I4:a9 X aa U H3 { s3 with heap:=s3.heap.push { cls:=.type "slice",data:=.fields #[vl,vu,.none] } }:=I3.kept (t':=s3.toks) λb ob q=>A8 _ q
 obtain⟨T,id,hT,ht,hg⟩:=hr aa { s3 with heap:=s3.heap.push { cls:=.type "slice",data:=.fields #[vl,vu,.none] } } U H3 x v vl vu l u s3.heap.objs.size Q I4 r1 (Ch.IsSliceOf.new ..) pl pu q3;show Ah (Aw X.prog X.w) X.A (Ly e (.Slice lo hi none p2) v (.ref s3.heap.objs.size)) (EP X aa U Q) X.xe { s3 with heap:=s3.heap.push { cls:=.type "slice",data:=.fields #[vl,vu,.none] } };exact tail_any (ops:=[.ref s3.heap.objs.size,v]) ht hT hg (by with_unfolding_all rfl)
def rM(xs:List V)(lo hi:Option Int):List V:=(xs.drop (HT.sIx xs.length 0 lo)).take (HT.sIx xs.length xs.length hi-HT.sIx xs.length 0 lo)
def QG(xs:List V)(lo hi:Option Int):(rM xs lo hi).length<=xs.length:=by unfold rM;rw[Eg,Ff];omega
def v3J(K:A5):V->Option Int->Option Int->Hp->VK->Prop:=λx lo hi H Q=>∃a xs,x = .ref a/\i8 K H a xs /\
 ¬(HT.sIx xs.length 0 lo=0/\HT.sIx xs.length xs.length hi=xs.length)/\∀p,H p=none->Q (.ref p) (upd H p (.tup (rM xs lo hi)))
def Ũ:uM X (v3J X.K):=by
 intro aa s U H x v vl vu lo hi sl Q I rx hs pl pu h;obtain⟨a,xs,rfl,hx,hw,q⟩:=h;cases rx;obtain⟨its,r,ht,hz⟩:=I.tuple hx
 have ab:its.toArray.size=xs.length:=by rw[Af];exact r.length.symm
 refine⟨"tuple",_,C3.lookup,ht.typeIs,?_⟩;refine HT.getItem_tuple_cut ht hs pl pu (by rw[ab];exact hw) ?_ (by rw[ab];exact hz)
 rw[ab];refine⟨.ref s.heap.objs.size,_,I.laid (t':=s.toks) (o:=.tup (rM xs lo hi)) (λb ob q=>A8 _ q) (Ad _) ?_,rfl,q _ (I.hok.fresh (Ad _))⟩;exact⟨C7 (QG xs lo hi) hz,_,(r.drop (HT.sIx xs.length 0 lo)).take (HT.sIx xs.length xs.length hi-HT.sIx xs.length 0 lo),o5.new _ _⟩
def Ve(K:A5):R2:=λx y H Q=>∃a b ns ms,x = .ref a/\y = .ref b/\i8 K H a (ns.map V.int)/\i8 K H b (ms.map V.int)/\Q (.bl (HT.lexLt ns ms)) H
def Ľ(hu:X.A.units<D8):kO X (De .Lt) (Ve X.K):=by intro aa s U H x y v u Q I rx ry h;obtain⟨a,b,ns,ms,rfl,rfl,ha,hb,q⟩:=h;cases rx;cases ry;obtain⟨its,r1,p1,_⟩:=I.tuple ha;obtain⟨aq,r2,p2,_⟩:=I.tuple hb;have i1:Cj its.toArray.toList ns:=Z3 r1;have i2:Cj aq.toArray.toList ms:=Z3 r2;exact HT.lt_tupInts p1 p2 i1 i2 hu ⟨.bl (HT.lexLt ns ms),H,I,rfl,q⟩
def v1L(K:A5):R2:=λx y H Q=>∃a b xs ys,x = .ref a/\y = .ref b/\i8 K H a xs/\i8 K H b ys/\xs≠[]/\xs.length+ys.length<=sizeLine /\
 (ys=[]->Q (.ref a) H)/\(ys≠[]->∀p,H p=none->Q (.ref p) (upd H p (.tup (xs++ys))))
theorem Y4.nil_iff(r:Y4 xs us):us=[]↔xs=[]:=by
 cases r with
 |nil=>simp
 |cons _ _=>simp
def Ê:kO X (Hj .Add) (v1L X.K):=by
 intro aa s U H x y v u Q I rx ry h;obtain⟨a,b,xs,ys,rfl,rfl,ha,hb,hx,hz,q1,q2⟩:=h;cases rx;cases ry;obtain⟨its,r1,p1,_⟩:=I.tuple ha;obtain⟨aq,r2,p2,_⟩:=I.tuple hb;refine HT.cat_tup p1 p2 (λz=>hx (r1.nil_iff.mp z)) (λz=>⟨.ref a,H,I,rfl,q1 (r2.nil_iff.mp z)⟩) (λz=>?_) (by rw[<-r1.length,<-r2.length];exact hz)
 refine⟨.ref s.heap.objs.size,_,I.laid (t':=s.toks) (o:=.tup (xs++ys)) (λb ob q=>A8 _ q) (Ad _) ?_,rfl,q2 (λw=>z (r2.nil_iff.mpr w)) _ (I.hok.fresh (Ad _))⟩;exact⟨by rw[Ap];exact hz,_,r1.append r2,o5.new _ _⟩
end
def qO(n:Nat)(i:Int):Option Nat:=if 0<=i then (if i<n then some i.toNat else none) else if -(n:Int)<=i then some (i+n).toNat else none
def lL{α:Type}(xs:List α)(i:Int):Option α:=(qO xs.length i).bind λj=>xs[j]?
def Rt{j:Nat}(h:qO n i=some j):seqIndex? i n=some j/\j<n/\-(n:Int)<=i/\i<n:=by
 unfold qO at h;by_cases h0:0<=i
 .rw[y6 h0]at h;by_cases h1:i<n
  .rw[y6 h1]at h;have e:i.toNat=j:=Bi h;exact⟨by rw[Oa h0 h1,e],⋯,⋯,h1⟩
  .rw[y8 h1]at h;cases h
 .rw[y8 h0]at h;by_cases h1 : -(n:Int)<=i
  .rw[y6 h1]at h;have e:(i+n).toNat=j:=Bi h;exact⟨by rw[seqIndex_neg ⋯ h1,e],⋯,h1,⋯⟩
  .rw[y8 h1]at h;cases h
theorem LF{α:Type}{xs:List α}{i:Int}{v:α}(h:lL xs i=some v):∃j,seqIndex? i xs.length=some j/\xs[j]?=some v/\j<xs.length/\-(xs.length:Int)<=i/\i<xs.length:=by
 unfold lL at h
 cases e:qO xs.length i with
 |none=>rw[e]at h;cases h
 |some j=>rw[e]at h;obtain⟨h1,h2,h3,h4⟩:=Rt e;exact⟨j,h1,h,h2,h3,h4⟩
def DW(b:Expr):Prop:=∀o i,My b false o i=operate [o,i] (Ja o i)
def sX(X:Cx)(r:R2):Prop:=
 ∀(value aL:Expr) (aa:i6) (s:Ae) (U:St) (H:Hp) (x y:V) (v u:A9) (Q:VK),a9 X aa U H s->f9 x v->f9 y u->r x y H Q ->
  My aL false v u=operate [v,u] (Ja v u)->Ah (Aw X.prog X.w) X.A (Ly value aL v u) (EP X aa U Q) X.xe s
def BM(X:Cx)(id:String)(r:V->List V->Hp->VK->Prop):Prop:=
 ∀(aa:i6) (s:Ae) (U:St) (H:Hp) (x:V) (xs:List V) (v:A9) (us:List A9) (Q:VK),a9 X aa U H s->f9 x v->Y4 xs us->r x xs H Q ->
  Ah (Aw X.prog X.w) X.A (call (.builtin id) (v::us)) (EP X aa U Q) X.xe s
section
variable{X:Cx}{a b:Expr}{ta tb:TE}{pos:Hi}
def sX.or(h:sX X r)(h':sX X r'):sX X (λx y H Q=>r x y H Q\/r' x y H Q):=by
 intro value aL aa s U H x y v u Q I rx ry q hs;rcases q with q|q
 .exact h value aL aa s U H x y v u Q I rx ry q hs
 .exact h' value aL aa s U H x y v u Q I rx ry q hs
def TK(hr:sX X r)(ha:PE X a ta)(hb:PE X b tb)(hs:DW b):PE X (.Subscript a b pos) (yK r ta tb):=by intro aa s U H Q I h;exact Nr (MP ha hb I h λv u s2 x y H2 I2 rx ry q=>hr a b aa s2 U H2 x y v u Q I2 rx ry q (hs _ _))
def Vb(K:A5):R2:=λx y H Q=>∃p xs i v,x = .ref p/\y = .int i/\i7 K H p xs/\lL xs i=some v/\Q v H
def Vd(K:A5):R2:=λx y H Q=>∃p xs i v,x = .ref p/\y = .int i/\i8 K H p xs/\lL xs i=some v/\Q v H
def Vc:R2:=λx y H Q=>∃z i c,x = .str z/\y = .int i/\z.length<=sizeLine/\lL z.cps.toList i=some c/\Q (.str ⟨#[c]⟩) H
def Ru:sX X (Vb X.K):=by
 intro value aL aa s U H x y v u Q I rx ry h hs;obtain⟨p,xs,i,z,rfl,rfl,hq,he,q⟩:=h;cases rx;obtain⟨t,rfl⟩:=ry;obtain⟨its,r,pl,hz⟩:=I.list hq;obtain⟨j,h1,h2,h3,h4,h5⟩:=LF he;obtain⟨w,ew,rw'⟩:=r.get h2;have hl:=r.length;have hn:=xC;have fin:EP X aa U Q w s:=⟨z,H,I,rw',q⟩;by_cases h0:0<=i
 .have hj:i.toNat=j:=by rw[Oa h0 h5]at h1;exact Bi h1
  exact item_listR pl.isList h0 ⋯ (by rw[hj];simpa using ew) fin hs
 .have hj:(i+(its.toArray.size:Int)).toNat=j:=by rw[seqIndex_neg ⋯ h4]at h1;rw[Af,<-hl];exact Bi h1
  exact subscriptTail_builtinR (x:=w) pl.isList.typeIs slot_list_getitem.lookup
   (wpAny_getItem_list_neg (Q:=λr s'=>r=w/\EP X aa U Q r s') pl.isList ⋯ (by rw[Af]<;>omega) ⋯ (by rw[hj];simpa using ew) ⟨rfl,fin⟩) hs
def v0A:sX X (Vd X.K):=by
 intro value aL aa s U H x y v u Q I rx ry h hs;obtain⟨p,xs,i,z,rfl,rfl,hq,he,q⟩:=h;cases rx;obtain⟨t,rfl⟩:=ry;obtain⟨its,r,pl,hz⟩:=I.tuple hq;obtain⟨j,h1,h2,h3,h4,h5⟩:=LF he;obtain⟨w,ew,rw'⟩:=r.get h2;have hl:=r.length;have hn:=xC;have fin:EP X aa U Q w s:=⟨z,H,I,rw',q⟩
 exact subscriptTail_builtinR (x:=w) pl.typeIs slot_tuple_getitem.lookup
  (getItem_tuple (j:=j) (Q:=λr s'=>r=w/\EP X aa U Q r s') pl ⋯ ⋯ (by rw[Af,<-hl];exact h1) (by simpa using ew) ⟨rfl,fin⟩) hs
def v0C:sX X Vc:=by
 intro value aL aa s U H x y v u Q I rx ry h hs;obtain⟨z,i,c,rfl,rfl,hz,he,q⟩:=h;obtain⟨t,rfl⟩:=rx;obtain⟨t',rfl⟩:=ry;obtain⟨j,h1,h2,h3,h4,h5⟩:=LF he
 have hl:z.cps.toList.length=z.length:=by simp[Ba.length]
 rw[hl]at h1 h4 h5;have hn:=xC
 exact tail_any (typeIs_str s z t) slot_str_getitem.lookup (getItem_str (c:=c) (by
  have e1:decide (i < -(2 ^ 63:Int))=false:=W4 ⋯;have e2:decide (i>=2 ^ 63)=false:=W4 ⋯
  rw[e1,e2,Jx]) (by rw[h1];simpa using h2) ⟨.str ⟨#[c]⟩,H,I.tok _,⟨_,rfl⟩,q⟩) hs
def rIx(K:A5):R2:=λx y H Q=>Vb K x y H Q\/Vd K x y H Q\/Vc x y H Q
def v0D:sX X (rIx X.K):=Ru.or (v0A.or v0C)
def a9.lst(I:a9 X aa U H s)(h:H p=some (.lst xs)):
  ∃(its:List A9) (n:Nat),Y4 xs its/\s.heap.get? p=some { cls:=.type "list",data:=.seq its.toArray n }/\xs.length<=sizeLine:=by
 obtain⟨z,its,n,r,e⟩:=I.hok p _ h;exact⟨its,n,r,e,z⟩
def WI(lo hi:Option Int)(n:Nat):(Is lo hi none n).1=((HT.sIx n 0 lo:Nat):Int)/\(Is lo hi none n).2.1=((HT.sIx n n hi:Nat):Int)/\(Is lo hi none n).2.2=1:=by
 refine⟨?_,?_,rfl⟩
 .cases lo with
  |none=>simp[Is,HT.sIx]
  |some i=>
   simp only[Is,HT.sIx,Option.getD_none,show (1:Int)>0 by decide,if_true];by_cases h:i<0
   .simp only[h,if_true]<;>omega
   .simp only[h,if_false]<;>omega
 .cases hi with
  |none=>simp[Is,HT.sIx]
  |some i=>
   simp only[Is,HT.sIx,Option.getD_none,show (1:Int)>0 by decide,if_true];by_cases h:i<0
   .simp only[h,if_true]<;>omega
   .simp only[h,if_false]<;>omega
def Xo(its:List A9)(lo hi:Option Int):slicePick its.toArray lo hi none=((its.drop (HT.sIx its.length 0 lo)).take (HT.sIx its.length its.length hi-HT.sIx its.length 0 lo)).toArray:=by obtain⟨h1,h2,h3⟩:=WI lo hi its.toArray.size;unfold slicePick;rw[h1,h2,h3];simp only[sliceRange_one,pick_run,Af]<;>rfl
def v3K(K:A5):V->Option Int->Option Int->Hp->VK->Prop:=λx lo hi H Q=>∃a xs,x = .ref a/\i7 K H a xs/\∀p,H p=none->Q (.ref p) (upd H p (.lst (rM xs lo hi)))
def î:uM X (v3K X.K):=by
 intro aa s U H x v vl vu lo hi sl Q I rx hs pl pu h;obtain⟨a,xs,rfl,hx,q⟩:=h;cases rx;obtain⟨its,r,ht,hz⟩:=I.list hx;have ab:=r.length;refine⟨"list",_,slot_list_getitem.lookup,ht.isList.typeIs,?_⟩;refine wpAny_getItem_list_slice ht.isList hs pl pu .none (by simp) ?_ (by rw[Af]<;>omega)
 rw[Xo,<-ab];refine⟨.ref s.heap.objs.size,_,I.laid (t':=s.toks) (o:=.lst (rM xs lo hi)) (λb ob q=>A8 _ q) (Ad _) ?_,rfl,q _ (I.hok.fresh (Ad _))⟩;exact⟨C7 (QG xs lo hi) hz,_,0,(r.drop (HT.sIx xs.length 0 lo)).take (HT.sIx xs.length xs.length hi-HT.sIx xs.length 0 lo),Ak _ rfl⟩
def Wl:lC X (.builtin "len") (λxs H Q=>∃p ys,xs=[.ref p]/\(i7 X.K H p ys\/i8 X.K H p ys)/\Q (.int ys.length) H):=by
 intro aa s U H xs us Q I r h;obtain⟨p,ys,rfl,hq,q⟩:=h;obtain⟨u,rfl,rx⟩:=l7 r;cases rx;have hn:=xC;rcases hq with hq|hq
 .obtain⟨its,r',pl,hz⟩:=I.list hq;have ab:=r'.length;exact Calls.call_len_list pl.isList (by simp only[Af]<;>omega) ⟨.int ys.length,H,I.tok _,⟨s.toks+1,by rw[Af,ab]⟩,q⟩
 .obtain⟨its,r',pl,hz⟩:=I.tuple hq;have ab:=r'.length;exact len_tuple pl (by simp only[Af]<;>omega) ⟨.int ys.length,H,I.tok _,⟨s.toks+1,by rw[Af,ab]⟩,q⟩
def lC.or(h:lC X f r)(h':lC X f r'):lC X f (λxs H Q=>r xs H Q\/r' xs H Q):=by
 intro aa s U H xs us Q I rs q;rcases q with q|q
 .exact h aa s U H xs us Q I rs q
 .exact h' aa s U H xs us Q I rs q
def OG:lC X (.type "tuple") (λxs H Q=>∃p ys,xs=[.ref p]/\((i7 X.K H p ys/\∀l,H l=none->Q (.ref l) (upd H l (.tup ys)))\/(i8 X.K H p ys/\Q (.ref p) H))):=by
 intro aa s U H xs us Q I r h;obtain⟨p,ys,rfl,h⟩:=h;obtain⟨u,rfl,rx⟩:=l7 r;cases rx;rcases h with⟨hq,q⟩|⟨hq,q⟩
 .obtain⟨its,r',pl,hz⟩:=I.list hq;have ab:=r'.length;refine call_tuple_list pl.isList (λh' kp=>?_) (by simp only[Af]<;>omega)
  have I1:a9 X aa U H { s with heap:=h' }:=I.kept (t':=s.toks) kp
  have I2:a9 X aa U (upd H h'.objs.size (.tup ys)) { s with heap:=h'.push { cls:=.type "tuple",data:=.seq its.toArray } }:=I1.laid (t':=s.toks) (λb o e=>A8 _ e) (Ad _) (show kX X.prog X.w _ _ _ (.tup ys) from ⟨hz,its,r',o5.new _ _⟩)
  exact⟨.ref h'.objs.size,_,I2,rfl,q _ (I1.hok.fresh (Ad _))⟩
 .obtain⟨its,r',pl,hz⟩:=I.tuple hq;exact call_tuple_same pl ⟨.ref p,H,I,rfl,q⟩
def NE(K:A5)(T:String)(x:V)(H:Hp):Prop:=match x with
 | .str _=>T = "str"
 | .int _=>T = "int"
 | .ref p=>(T = "list"/\∃xs,i7 K H p xs)\/(T = "tuple"/\∃xs,i8 K H p xs) \/
   (T = "dict"/\((∃kvs,H p=some (.dK kvs))\/∃kvs,H p=some (.dT kvs)))\/(T = "set"/\∃S n,H p=some (.set S n))
 |_=>False
theorem UQ(I:a9 X aa U H s)(r:f9 x v)(ty:NE X.K T x H):
  s.TypeIs v T/\∀a,v = .ref a->∃ob,s.heap.get? a=some ob/\ob.dict=none:=by
 cases x with
 |str z=>obtain⟨t,rfl⟩:=r;cases (show T = "str" from ty);exact⟨typeIs_str s z t,λ_ e=>nomatch e⟩
 |int i=>obtain⟨t,rfl⟩:=r;cases (show T = "int" from ty);exact⟨typeIs_int s i t,λ_ e=>nomatch e⟩
 |ref p=>
  cases r;rcases ty with⟨rfl,xs,hq⟩|⟨rfl,xs,hq⟩|⟨rfl,hk⟩|⟨rfl,S,n,hk⟩
  .obtain⟨its,_,pl,_⟩:=I.list hq;refine⟨pl.isList.typeIs,λa e=>?_⟩;cases e;obtain⟨o,n,e,c,hd,_⟩:=pl;exact⟨o,e,hd⟩
  .obtain⟨o,e0,hc,hd⟩:=I.tupleP hq;refine⟨⟨o,e0,hc⟩,λa e=>?_⟩;cases e;exact⟨o,e0,hd⟩
  .have z:∃o,s.heap.get? p=some o/\o.ExactDict:=by
    rcases hk with⟨kvs,hk⟩|⟨kvs,hk⟩
    .obtain⟨_,_,_,_,o,_,_,e,ex,_⟩:=I.hok p _ hk;exact⟨o,e,ex⟩
    .obtain⟨_,_,_,_,o,_,_,e,ex,_⟩:=I.hok p _ hk;exact⟨o,e,ex⟩
   obtain⟨o,e,ex⟩:=z;refine⟨⟨o,e,ex.1⟩,λa e2=>?_⟩;cases e2;exact⟨o,e,ex.2.1⟩
  .obtain⟨o,_,_,_,e,ex,_⟩:=I.hok p _ hk;refine⟨⟨o,e,ex.1⟩,λa e2=>?_⟩;cases e2;exact⟨o,e,ex.2.1⟩
 |_=>exact G7 ty
def v3E(K:A5)(T:String)(r:V->List V->Hp->VK->Prop)(to:TE):TE:=λU H Q=>to U H λx H1=>NE K T x H1/\r x [] H1 Q
def Vq(K:A5)(T:String)(r:V->List V->Hp->VK->Prop)(to:TE)(t:TA):TE:=λU H Q=>to U H λx H1=>NE K T x H1/\t U H1 λxs H2=>r x xs H2 Q
variable{o e:Expr}{es:List Expr}{to:TE}{t:TA}{name:Ba}{cX bX:Hi}{T id:String}{r:V->List V->Hp->VK->Prop}
def ń(pa:PlainAttrs T)(slot:Slot T name id)(hty:typeOf (.builtin id)=Ci (.type "method_descriptor"))(hm:BM X id r)(ho:PE X o to)(aD:Fb o name X.env (Ec o X.env)=Ec o X.env:=by rfl)(aE:(cX.endLine==bX.line)=true:=by rfl):PE X (.Call (.Attribute o name cX) [] [] bX) (v3E X.K T r to):=by intro aa s U H Q I h;refine wpAny_Call_method0_late aD aE (jK (ho aa s U H _ I h) λv s1 x H1 I1 r1 ⟨ty,q1⟩=>?_);obtain⟨h1,h2⟩:=UQ I1 r1 ty;exact⟨T,id,pa,slot,hty,h1,h2,Calls.callWith_builtin rfl (PySem.evalArgs_none (hm aa s1 U H1 x [] v [] Q I1 r1 .nil q1))⟩
def xX(pa:PlainAttrs T)(slot:Slot T name id)(hty:typeOf (.builtin id)=Ci (.type "method_descriptor"))(hm:BM X id r)(ho:PE X o to)(ha:PA X (e::es) t)(aD:Fb o name X.env (Ec o X.env)=Ec o X.env:=by rfl)
  (bd:((F0 bX (Bt (e::es) X.env)).all (λx=>!x.1)&&(M9 bX (Iu [] X.env)).all (λx=>x.1.isSome)
   && decide ((e::es).length+([]:List Hu).length+(if ([]:List Hu).isEmpty then 0 else 1)<30))=true:=by rfl)
  (aE:(cX.endLine==bX.line)=true:=by rfl) (hs:Bt (e::es) X.env=(false,Ec e X.env)::Bt es X.env:=by rfl) (cy:(F0 bX (Bt es X.env)).any (·.1)=false:=by rfl):
  PE X (.Call (.Attribute o name cX) (e::es) [] bX) (Vq X.K T r to t):=by
 intro aa s U H Q I h;refine wpAny_Call_method_late aD bd aE rfl (jK (ho aa s U H _ I h) λv s1 x H1 I1 r1 ⟨ty,q1⟩=>?_);obtain⟨h1,h2⟩:=UQ I1 r1 ty;refine⟨T,id,pa,slot,hty,h1,h2,?_⟩;have hA:=ha bX aa s1 U H1 _ I1 q1;rw[hs]at hA ⊢;refine Calls.callWith_builtin (by show (false||(F0 bX (Bt es X.env)).any (·.1))=false;rw[cy]<;>rfl) (Calls.evalArgs_plain ?_)
 exact kY hA λus s2 ⟨vs,H2,I2,r2,q2⟩=>hm aa s2 U H2 x vs v us Q I2 r1 r2 q2
end
def NM(X:Cx)(id:String)(r:V->List V->Hp->VK->Prop):Prop:=
 ∀(aa:i6) (s:Ae) (U:St) (H:Hp) (x:V) (xs:List V) (v:A9) (us:List A9) (Q:VK),a9 X aa U H s->f9 x v->Y4 xs us->r x xs H Q ->
  Ah (Aw X.prog X.w) X.A (call (.builtin id) (v::us)) (EP X aa U Q) X.xe s
theorem Y4.one:∀{x:V} {us:List A9},Y4 [x] us->∃u,us=[u]/\f9 x u
 |_,_,.cons r .nil=>⟨_,rfl,r⟩
theorem Y4.two:∀{x y:V} {us:List A9},Y4 [x,y] us->∃u v,us=[u,v]/\f9 x u/\f9 y v
 |_,_,_,.cons r (.cons q .nil)=>⟨_,_,rfl,r,q⟩
theorem Y4.zero:∀{us:List A9},Y4 [] us->us=[]
 |_,.nil=>rfl
theorem Y4.eraseIdx:∀{xs:List V} {us:List A9} (i:Nat),Y4 xs us->Y4 (xs.eraseIdx i) (us.eraseIdx i)
 |_,_,_,.nil=>.nil
 |_,_,0,.cons _ t=>t
 |_,_,i+1,.cons r t=>.cons r (Y4.eraseIdx i t)
theorem Y4.rep(h:Y4 xs us):∀k:Nat,Y4 (Bf k xs).flatten (Bf k us).flatten
 | 0=>.nil
 |k+1=>by rw[Es,Es,Fy,Fy];exact Y4.append h (Y4.rep h k)
theorem Pw{α:Type}:∀(l:List α) (i:Nat),(l.eraseIdx i).length<=l.length
 | [],_=>Ad _
 |_::_,0=>E9 _
 |_::r,i+1=>Ma (Pw r i)
theorem Pm(its:List A9):∀(k:Nat) (af:List A9),
  Nt (λx1 x2=>x1++x2) af.toArray (Bf k its.toArray)=(af++(Bf k its).flatten).toArray
 | 0,af=>by simp
 |k+1,af=>by
  have e:af.toArray++its.toArray=(af++its).toArray:=by simp
  have e2:(af++its)++(Bf k its).flatten=af++(Bf (k+1) its).flatten:=by rw[Es,Fy,Cp]
  rw[<-e2,<-Pm its k (af++its),<-e,Es,Ik]
section
variable{X:Cx}{aa:i6}{U:St}{H:Hp}{s:Ae}{l b:As}{xs ys zs:List V}
def a9.lset{its its':List A9}{f:Array A9->Array A9}{t':Nat}(I:a9 X aa U H s)(hH:H l=some (.lst xs))(e:s.heap.get? l=some { cls:=.type "list",data:=.seq its.toArray n })(hf:f its.toArray=its'.toArray)(hv:Y4 ys its')(hz:ys.length<=sizeLine):
  a9 X aa U (upd H l (.lst ys)) { s with heap:=s.heap.update l (Cg f),toks:=t' }:=by
 have q:=PySem.IsL.update e f;rw[hf]at q;refine I.write (x:=l) (e:=l) (by rw[hH];exact trivial) (.inl rfl) (λb' u hb hu=>(Bd s.heap (Cg f) (Cz hb)).trans hu) ⟨_,q⟩ ?_
 exact⟨hz,its',_,hv,q⟩
def a9.lnew{t':Nat}(I:a9 X aa U H s)(hv:Y4 ys its)(hz:ys.length<=sizeLine):
  a9 X aa U (upd H s.heap.objs.size (.lst ys)) { s with heap:=s.heap.push { cls:=.type "list",data:=.seq its.toArray },toks:=t' }:=
 I.laid (λ_ _ q=>A8 _ q) (Ad _) ⟨hz,its,0,hv,Ak _ rfl⟩
def a9.fresh(I:a9 X aa U H s):H s.heap.objs.size=none:=I.hok.fresh (Ad _)
def a9.lstM(I:a9 X aa U H s)(hH:H l=some (.lst xs)):xs.length<=sizeLine/\∃(its:List A9) (n:Nat),Y4 xs its/\xs.length=its.length/\s.heap.get? l=some { cls:=.type "list",data:=.seq its.toArray n }:=by obtain⟨z,its,n,r,e⟩:=I.hok l _ hH;exact⟨z,its,n,r,r.length,e⟩
def ϥ{n:Nat}(h:n<=sizeLine):Ez n=false:=by unfold Ez;exact W4 ⋯
end
section
variable{X:Cx}
def Ö:V->List V->Hp->VK->Prop:=λx vs H Q=>∃l xs y,x = .ref l/\vs=[y]/\H l=some (.lst xs)/\xs.length<sizeLine/\Q .non (upd H l (.lst (xs++[y])))
def KF:NM X "list.append" Ö:=by
 intro aa s U H x vs v us Q I rx rv h;obtain⟨l,xs,y,rfl,rfl,hH,hz,q⟩:=h;cases rx;obtain⟨u,rfl,ru⟩:=rv.one;obtain⟨z,its,n,r,hl,e⟩:=I.lstM hH;refine Js F.slot_list_append ⟨_,e,rfl⟩ F.entry_list_append (F.args_list_append_2 _ _) (PySem.list_append l its.toArray n u (by rw[Af];omega)) ⟨e,?_⟩
 refine⟨.non,_,I.lset (its':=its++[u]) hH e (by simp) (r.append (.cons ru .nil)) ?_,rfl,q⟩;rw[Ap,Bg];omega
def Ø:V->List V->Hp->VK->Prop:=λx vs H Q=>∃l b xs zs,x = .ref l/\vs=[.ref b]/\H l=some (.lst xs)/\H b=some (.lst zs)/\xs.length+zs.length<=sizeLine/\Q .non (upd H l (.lst (xs++zs)))
def Yr:NM X "list.extend" Ø:=by
 intro aa s U H x vs v us Q I rx rv h;obtain⟨l,b,xs,zs,rfl,rfl,hH,hB,hz,q⟩:=h;cases rx;obtain⟨u,rfl,ru⟩:=rv.one;cases ru;obtain⟨z,its,n,r,hl,e⟩:=I.lstM hH;obtain⟨z2,aq,n2,r2,fF,e2⟩:=I.lstM hB
 have hsz:its.toArray.size+aq.toArray.size<=sizeLine:=by rw[Af,Af];omega
 have iI:¬(!its.toArray.isEmpty&&Ez (its.toArray.size+aq.toArray.size))=true:=by rw[ϥ hsz,Bool.and_false];exact Ay
 refine Js F.slot_list_extend ⟨_,e,rfl⟩ F.entry_list_extend (F.args_list_extend_2 _ _)
  (AutoSeq1.list_extend_list_list_0 l its.toArray n b aq.toArray n2 iI (by rw[Af];omega) ⋯) ⟨e,e2,?_⟩
 refine⟨.non,_,I.lset (its':=its++aq) hH e (by simp) (r.append r2) ?_,rfl,q⟩;rw[Ap];omega
def UC:V->List V->Hp->VK->Prop:=λx vs H Q=>∃l xs i k y,x = .ref l/\vs=[.int i]/\H l=some (.lst xs)/\-(2 ^ 63)<=i/\i<2 ^ 63/\seqIndex? i xs.length=some k/\xs[k]?=some y/\Q y (upd H l (.lst (xs.eraseIdx k)))
def ϣ:NM X "list.pop" UC:=by
 intro aa s U H x vs v us Q I rx rv h;obtain⟨l,xs,i,k,y,rfl,rfl,hH,h1,h2,hk,hy,q⟩:=h;cases rx;obtain⟨u,rfl,ru⟩:=rv.one;obtain⟨t,rfl⟩:=ru;obtain⟨z,its,n,r,hl,e⟩:=I.lstM hH;obtain⟨w,hw,rw'⟩:=r.get hy
 refine Js F.slot_list_pop ⟨_,e,rfl⟩ F.entry_list_pop (F.args_list_pop_2 _ _)
  (MeetsSeq.list_pop_at l its.toArray n i t k w (fitsIndex_both h1 h2) (by rw[Af,<-hl];exact hk) (by rw[<-C0];exact hw) (by rw[Af];omega)) ⟨e,?_⟩
 refine⟨y,_,I.lset (its':=its.eraseIdx k) hH e ?_ (r.eraseIdx k) ?_,rw',q⟩
 .show its.toArray.eraseIdxIfInBounds k=(its.eraseIdx k).toArray;rw[List.eraseIdxIfInBounds_toArray]
 .have:=Pw xs k
  omega
theorem Á{α:Type}(xs:List α)(k:Nat):(Bf k xs).flatten.length=k*xs.length:=by
 induction k with
 |zero=>simp
 |succ k ih=>rw[Es,Fy,Ap,ih,Nat.succ_mul,Nat.add_comm]
end
end L2
namespace Att
open PySem PySem.W PySem.Calls PyProof.Rows
theorem XR:∀(ns:List Int) (vs:List A9),WellAll P h vs (ns.map WData.int)->Cj vs ns:=by
 intro ns
 induction ns with
 |nil=>intro vs w;rw[Go]at w;cases w;exact .nil
 |cons n ns ih=>
  intro vs w;rw[Ai]at w
  cases w with
  |cons a b=>cases a;exact .cons _ _ (ih _ b)
theorem YQ{l:OpenLaw}{n:Nat}(hn:l.most=some n)(eD:l.row.toRowW.claim.pre args=true)(hwl:WellAll P h hX args):
  ∃a vs ns,hX=[Co a]/\args=[WData.list (ns.map WData.int)]/\h.get? a=some { cls:=.type "list",data:=.seq vs.toArray }/\Cj vs ns/\ns.length<=n:=by
 have hsh:WShape.hasAll [] args [.list .int]=true:=(pre_splitW eD).1;have hc:l.pre.holds [] { args:=args }=true:=(pre_splitW eD).2;obtain⟨d,r,rfl,h1,h2⟩:=hasAllW_cons hsh
 obtain rfl:=hasAllW_nil h2
 obtain⟨xs,rfl,h3⟩:=hasW_list h1;obtain⟨ns,rfl⟩:=items_int h3
 have ab:ns.length<=n:=by
  unfold OpenLaw.pre at hc
  have h4:(WTm.not (.lt (.lit (.int (n:Int))) (.len (.arg 0)))).holds [] { args:=[.list (ns.map .int)] }=true:=by have h4:=(holds_andW hc).1;rw[hn]at h4;exact h4
  have h5:=condW_of h4 (w_not (w_lt w_lit (w_len_list (w_arg rfl))));rw[A3]at h5;refine Nat.le_of_not_lt λq=>?_
  have q':(n:Int)<((ns.length:Nat):Int):=by omega
  first
   | (rw[Y1 q']at h5;exact u3 h5 ∅)
   | (simp at h5;omega)
 cases hwl with
 |cons w1 w2=>
  cases w2
  cases w1 with
  |list ho cu=>exact⟨_,_,ns,rfl,rfl,ho,XR ns _ cu,ab⟩
def YE(l:OpenLaw)(args:List WData):l.row.toRowW.claim.post args (.bool true) args=true:=
 postW_of (r:=l.row.toRowW) (X:=(true==true))
  (show WShape.has [] (.bool true) .bool=true by first|rfl|decide|simp[WShape.has,WShape.arms,WShape.armsAll])
  (show (WTm.eq .res (.lit (.bool true))).value [] { args:=args,res:=some (.bool true),after:=args }=some (.bool (true==true)) from w_eq_bool (w_res rfl) w_lit) rfl
def attach_call{l:OpenLaw}{n:Nat}{YP:Ce->Ch->Prop}{d:DefRec}(hn:l.most=some n)(jq:d.params.defaults=[])
  (call:∀(w:Ce) (s₀ s₁:Ae) (mg mb:Ba->Option A9) (fa:As) (o:Ka) (pm cd az:A9) (a:As) (vs:List A9) (ns:List Int),
   Ground q loose [] XP w s₀ mg mb s₁.heap->YP w s₁.heap ->
   s₁.heap.get? fa=some o->o.data = .func (docDef d.name d.params d.body d.scope pm cd az)->s₁.heap.CodeRec cd d.name->mg d.name=some (.ref fa) ->
   s₁.heap.get? a=some { cls:=.type "list",data:=.seq vs.toArray }->Cj vs ns->ns.length<=n->s₁.gens = #[] ->
   Eu (Aw l.prog w) N5 (.call (.ref fa) ⟨[.ref a],[]⟩) (λr s'=>r = .ok (.ret (.bool true))/\OldK s₁.heap s'.heap/\s'.os=s₁.os/\Ks s'.gens) s₁):
  WalkO q loose XP YP l.row.toRowW d [] (λf vs=>Oq f vs):=by
 intro w s₀ s₁ mg mb G ya fa o pm cd az dV kV ho hd aO hD ig hg args hX as eD hlay hrd hwl hlo
 obtain rfl:dV = .none:=Dflts.none hD jq
 obtain rfl:kV = .none:=Dflts.noKw hD
 obtain⟨a,vs,ns,rfl,rfl,fR,dD,ab⟩:=YQ hn eD hwl;refine enter_call (codeAny_mono (call w s₀ s₁ mg mb fa o pm cd az a vs ns G ya ho (fd_plain hd) aO ig fR dD ab hg) λr s' hq=>?_);obtain⟨rfl,h2,h3,h4⟩:=hq;exact⟨.inl ⟨.bool true,.bool true,[],rfl,λ_=>rfl,.bool true,YE l _,λ_=>⟨El,λ_ hm=>(nomatch hm)⟩⟩,h2,h3,h4⟩
end Att
namespace L2
open PySem PySem.Spec PyProof.Rows
theorem PX:∀{vs:List A9} {ns:List Int},Cj vs ns->Y4 (ns.map V.int) vs
 |_,_,.nil=>.nil
 |_,_,.cons n t h=>.cons ⟨t,rfl⟩ (PX h)
def pQ(s:Dl):N6:=match s with
 | .FunctionDef _ a _ _ _ _ _ _ _ _=>a
 |_=>{ posonlyargs:=[],args:=[],vararg:=none,kwonlyargs:=[],kw_defaults:=[],kwarg:=none,defaults:=[] }
def l9(s:Dl):List Dl:=match s with
 | .FunctionDef _ _ b _ _ _ _ _ _ _=>b
 |_=>[]
def u5(s:Dl):Scope:=match s with
 | .FunctionDef _ _ _ _ _ _ sc _ _ _=>sc
 |_=>{ kind:=.function,names:=[],isGenerator:=false,isCoroutine:=false }
abbrev mG:sZ:=λ_ _ _ _ _ _=>False
abbrev E0:XK:=λ_ _ _=>False
def TJ:MI mG X E0:=λ_ _ _ _ _ _ _ h=>h.elim
structure rW(K:A5)(x qual:Ba)(st:Dl)(f:As)(fd:Gt):Prop where
 ex:∃(oc:A9) (od:Option As) (kV az pm:A9) (an:Option As) (ah ct:A9) (dB:Array (Option A9)),
  fd=E3 x qual (pQ st) (l9 st) (u5 st) .none kV az pm an ah ct/\K.lookup f=some ⟨oc,od,.func fd,dB⟩/\Iy K ah qual=true
 kp:Fh K (.ref f)=true
section
variable{P:Bs}{w:Ce}{K:A5}{mg:Ba->Option A9}{base:Ch}
def rW.ok{x qual:Ba}{st:Dl}{f:As}{fd:Gt}{N ps:List Ba}{k:Nat}{sp:Sp}(F:rW K x qual st f fd)(S:jD N ps (u5 st))(len:∀vs H Q E,sp vs H Q E->vs.length=ps.length)
  (ap:∀(ah:A9) (A:Bz) (outer:List O7) (s:Ae) (H:Hp) (vs:List V) (Q:VK) (E:XK),d8 k (A.deeper (Jr qual (u5 st) s.heap.objs.size f ah))->sp vs H Q E ->
   ∃t,nI (oQ mG P w K mg base N qual (u5 st) f ah A outer s H E).nox (l9 st) t/\t { nx:=λ_ H'=>Q .non H',rt:=Q } (start N vs) H):kD P w K mg base mG (k+1) f fd ps sp:=by
 obtain⟨oc,od,kV,az,pm,an,ah,ct,dB,rfl,lk,aO⟩:=F.ex;refine Vl lk aO S len λA outer s H vs Q E hr du=>?_;obtain⟨t,h,q⟩:=ap ah A outer s H vs Q E hr du;exact⟨t,h.nox,q⟩
def rW.binds{x qual:Ba}{st:Dl}{f:As}{fd:Gt}{ps:List Ba}(F:rW K x qual st f fd)(h:∀(kV az pm:A9) (an:Option As) (ah ct:A9) (us:List A9),us.length=ps.length->Gu (E3 x qual (pQ st) (l9 st) (u5 st) .none kV az pm an ah ct) ⟨us,[]⟩=Ci (ps.zip us)):uB K fd ps []:=by obtain⟨oc,od,kV,az,pm,an,ah,ct,dB,rfl,lk,aO⟩:=F.ex;exact .all (h kV az pm an ah ct)
def Ub{x qual:Ba}{st:Dl}{f:As}{oc:A9}{od an:Option As}{dB:Array (Option A9)}{kV az pm ah ct:A9}(l:K.lookup f=some ⟨oc,od,.func (E3 x qual (pQ st) (l9 st) (u5 st) .none kV az pm an ah ct),dB⟩)(c:Iy K ah qual=true)(k:Fh K (.ref f)=true):rW K x qual st f (E3 x qual (pQ st) (l9 st) (u5 st) .none kV az pm an ah ct):=⟨⟨oc,od,kV,az,pm,an,ah,ct,dB,rfl,l,c⟩,k⟩
end
section
variable{X:Cx}
def pv(i:Nat){x:Ba}(hN:X.N[i]?=some x:=by rfl)(hv:mS X.env.scope x:=by first|exact E7 rfl|exact D3 (E7 rfl)|exact D3 (D3 rfl))(hd:(x==("__debug__":Ba))=false:=by decide)(aO:(x==("__classdict__":Ba))=false:=by decide):PE X (.Name x pos) (AZ i):=nW hN hv hd aO
end
def uI{A B:Prop}(h:B):if false=true then A else B:=by rw[y8 Ay];exact h
def sT{A B:Prop}(h:A):if true=true then A else B:=by rw[y6 rfl];exact h
def J4(H H':Hp):Prop:=∀b o,H b=some o->H' b=some o
def J4.refl(H:Hp):J4 H H:=λ_ _ h=>h
def J4.trans(a:J4 H H1)(b:J4 H1 H2):J4 H H2:=λc o h=>b c o (a c o h)
theorem J4.free(e:J4 H H')(h:H' l=Option.none):H l=Option.none:=by
 cases q:H l with
 |none=>rfl
 |some o=>rw[e l o q]at h;cases h
def J4.seq{K:A5}{H H':Hp}{a:As}{xs:List V}(e:J4 H H')(h:i7 K H a xs):i7 K H' a xs:=by
 rcases h with (h|⟨o,h⟩)|h
 .exact .inl (.inl (e _ _ h))
 .exact .inl (.inr ⟨o,e _ _ h⟩)
 .exact .inr h
end L2
namespace L3
open PySem PySem.Spec PyProof.Rows L2
abbrev St:=L2.St
section
variable{env:O7}
theorem KI:∀(names:List (Ba×Hk)) (cs:List (Ba×As)),(∀x∈names,x.2 = .free->∃c,env.cells.lookup x.1=some c) ->
  ∃cl:List (Ba×As),(forIn names cs (λ(x:Ba×Hk) (r:List (Ba×As))=>(if (x.2==C2)=true then do
    let a <-cellOf env x.1
    Ci (F4 ((x.1,a)::r))
   else Ci (F4 r):Sem (ForInStep (List (Ba×As))))):Sem (List (Ba×As)))=Ci cl /\
   (∀x c,cl.lookup x=some c->cs.lookup x=some c\/(env.cells.lookup x=some c/\(x,C2)∈names)) /\
   (∀x,((x,C2)∈names\/∃c,cs.lookup x=some c)->∃c,cl.lookup x=some c)
 | [],cs,_=>⟨cs,rfl,λx c h=>.inl h,λx h=>by
   rcases h with h|h
   .simp at h
   .exact h⟩
 | (n,k)::r,cs,hf=>by
  by_cases hk:k = .free
  .subst hk;obtain⟨c,hc⟩:=hf (n,.free) A6 rfl;obtain⟨cl,e,h1,h2⟩:=KI r ((n,c)::cs) (λx hx=>hf x (A7 _ hx));refine⟨cl,?_,λx d hd=>?_,λx hx=>?_⟩
   .rw[List.forIn_cons]
    have e1:cellOf env n=Ci c:=by unfold cellOf;rw[hc]
    simp only[beq_self_eq_true,if_true,e1];exact e
   .rcases h1 x d hd with q|⟨q1,q2⟩
    .rw[Bq]at q
     cases hx:x==n with
     |true=>
      rw[hx]at q
      have ex:x=n:=by simpa using hx
      subst ex;cases q;exact .inr ⟨hc,A6⟩
     |false=>rw[hx]at q;exact .inl q
    .exact .inr ⟨q1,A7 _ q2⟩
   .refine h2 x ?_;rcases hx with hx|⟨d,hd⟩
    .rcases Ac.mp hx with z|z
     .cases z;exact .inr ⟨c,by simp[Bq]⟩
     .exact .inl z
    .refine .inr ?_;rw[Bq]
     cases hx:x==n with
     |true=>exact⟨c,rfl⟩
     |false=>exact⟨d,hd⟩
  .obtain⟨cl,e,h1,h2⟩:=KI r cs (λx hx=>hf x (A7 _ hx));refine⟨cl,?_,λx d hd=>?_,λx hx=>?_⟩
   .rw[List.forIn_cons]
    have hb:(k==C2)=false:=by simpa using hk
    simp only[hb,B4,if_false];exact e
   .rcases h1 x d hd with q|⟨q1,q2⟩
    .exact .inl q
    .exact .inr ⟨q1,A7 _ q2⟩
   .refine h2 x ?_;rcases hx with hx|hx
    .rcases Ac.mp hx with z|z
     .cases z;exact u3 rfl hk
     .exact .inl z
    .exact .inr hx
def KJ{scope:Scope}(hf:∀x∈scope.names,x.2 = .free->∃c,env.cells.lookup x.1=some c):
  ∃cl,Os scope env=Ci cl/\(∀x c,cl.lookup x=some c->env.cells.lookup x=some c/\(x,C2)∈scope.names)/\(∀x,(x,C2)∈scope.names->∃c,cl.lookup x=some c):=by
 obtain⟨cl,e,h1,h2⟩:=KI (env:=env) scope.names [] hf;refine⟨cl,?_,λx c h=>?_,λx h=>h2 x (.inl h)⟩
 .unfold Os;have e':=e
  first
   |exact(lE (λm=>m >>= λcs=>Ci cs) e')
   | (simp only[bind_pure];exact e')
   | (show (forIn scope.names [] _ >>= λcs=>Ci cs)=Ci cl;rw[e'];rfl)
 .rcases h1 x c h with q|q
  .simp at q
  .exact q
end
section
variable{prog:Bs}{w:Ce}{A:Bz}{R:Kz->Ae->Prop}{s:Ae}
theorem Wn{ba ae ag:Expr}{it af:A9}(I:Nat->Ae->Prop)
  (turn:∀n s,I n s->Ah (Aw prog w) A (Hb it) (λr s1=>match r with
   |none=>R (.ok .next) s1
   |some v=>Ah (Aw prog w) A (Kh ae it v) (λ_ s1'=>Ah (Aw prog w) A (Lw ae env v) (λ_ s2=>
     Ah (Aw prog w) A (forIn bc true λc r=>if r=true then do let ok <-isTrue c env (Ec c env);Ci (F4 ok) else Ci (F4 r)) (λok s3=>
      if ok=true then Ah (Aw prog w) A (Ec ba env) (λx s4=>
       Ah (Aw prog w) A (call (.builtin "list.append") [af,x]) (λ_ s5=>∃m,m<n/\I m s5) (λ_ _=>False) s4) (λ_ _=>False) s3
      else ∃m,m<n/\I m s3) (λ_ _=>False) s2) (λ_ _=>False) s1') (λ_ _=>False) s1) (λ_ _=>False) s)
  (n:Nat) (h:I n s):
  Eu (Aw prog w) A (.compLoop (.ListComp ba [⟨ae,ag,bc,0⟩] scope pos) 0 it af env) R s:=by
 refine codeAny_loop rfl I (λn s hI=>?_) n h;show Ah _ A ((compTurn (.ListComp ba [⟨ae,ag,bc,0⟩] scope pos) 0 it af env).onRaise (λx=>do noteFrame x env;theTreesLotGoes x)) _ _ s
 refine wpAny_noted ?_;rw[compTurn_list];refine A0 (Gy (A0 (Cm (turn n s hI) (λr s1 h1=>?_) λ_ _ h'=>h'.elim)))
 cases r with
 |none=>exact x6 h1
 |some v=>
  refine A0 (Cm h1 (λ_ s1' cJ=>?_) λ_ _ h'=>h'.elim);refine A0 (Cm cJ (λ_ s2 h2=>A0 (Cm h2 (λok s3 h3=>?_) λ_ _ h'=>h'.elim)) λ_ _ h'=>h'.elim)
  cases ok with
  |false=>exact x6 ⟨rfl,h3⟩
  |true=>exact A0 (A0 (Cm h3 (λx s4 h4=>A0 (Cm h4 (λ_ s5 h5=>x6 (x6 ⟨rfl,h5⟩)) λ_ _ h'=>h'.elim)) λ_ _ h'=>h'.elim))
end
abbrev Y6(X:Cx)(N:List Ba)(scope:Scope)(cl:List (Ba×As))(C:As)(fp:List As)(s:Ae)(H:Hp):Cx where
 prog:=X.prog
 w:=X.w
 K:=X.K
 mg:=X.mg
 base:=X.base
 A:=X.A
 N:=N
 s₀:=s
 H₀:=H
 env:=compEnvC scope cl C X.env
 outer:=X.stack
 stack:=X.stack
 ex:=fp
 fn:=λx=>match scope.names.lookup x with|some .local=>true|some .cell=>true|_=>false
 calm:=X.calm
 pn:=[]
 xe:=λ_ _=>False
structure oD(X:Cx)(scope:Scope)(s:Ae)(h1:Ch)(cs:List (Ba×As)):Prop where
 old:∀x c,cs.lookup x=some c->(X.env.cells.lookup x=some c/\(x,C2)∈scope.names)\/(s.heap.objs.size<c/\h1.IsCell c none/\(x,Dz)∈scope.names)
 has:∀x,((x,C2)∈scope.names\/(x,Dz)∈scope.names)->∃c,cs.lookup x=some c
 inj:∀x y c,cs.lookup x=some c->cs.lookup y=some c->s.heap.objs.size<c->x=y
theorem HN:∀(names:List (Ba×Hk)) (n:Nat) (af:List (Ba×As)) (x:Ba),((x,Dz)∈names\/∃c,af.lookup x=some c)->∃c,(Ht n names af).lookup x=some c
 | [],_,_,_,h=>by
  rcases h with h|h
  .simp at h
  .exact h
 | (m,k)::r,n,af,x,h=>by
  unfold Ht;by_cases hk:(k==Dz)=true
  .rw[y6 hk];refine HN r _ _ x ?_;rcases h with h|⟨c,h⟩
   .rcases Ac.mp h with z|z
    .cases z;exact .inr ⟨n,by simp[Bq]⟩
    .exact .inl z
   .refine .inr ?_;rw[Bq]
    cases hx:x==m with
    |true=>exact⟨n,rfl⟩
    |false=>exact⟨c,h⟩
  .rw[y8 hk];refine HN r _ _ x ?_;rcases h with h|h
   .rcases Ac.mp h with z|z
    .cases z;exact u3 rfl hk
    .exact .inl z
   .exact .inr h
theorem HQ:∀(names:List (Ba×Hk)) (h:Ch) (af:List (Ba×As)) (x:Ba) (c:As),(Ht h.objs.size names af).lookup x=some c ->
  af.lookup x=some c\/(h.objs.size<=c/\(pushCells h names).IsCell c none/\(x,Dz)∈names)
 | [],_,_,_,_,e=>.inl e
 | (m,k)::r,h,af,x,c,e=>by
  unfold Ht at e;unfold pushCells;by_cases hk:(k==Dz)=true
  .rw[y6 hk]at e ⊢
   have bQ:k=Dz:=by simpa using hk
   have ih:=HQ r (h.push { cls:=.type "cell",data:=.cell none }) ((m,h.objs.size)::af) x c (by rw[Dx];exact e)
   rcases ih with z|⟨z1,z2,z3⟩
   .rw[Bq]at z
    cases hx:x==m with
    |true=>
     rw[hx]at z;cases z
     have:x=m:=by simpa using hx
     subst this;subst bQ;exact .inr ⟨Ad _,⟨_,pushCells_keeps _ _ _ _ (Ak _ rfl),rfl⟩,A6⟩
    |false=>
     rw[hx]at z;exact .inl z
   .rw[Dx]at z1;exact .inr ⟨⋯,z2,A7 _ z3⟩
  .rw[y8 hk]at e ⊢;rcases HQ r h af x c e with z|⟨z1,z2,z3⟩
   .exact .inl z
   .exact .inr ⟨z1,z2,A7 _ z3⟩
theorem HP:∀(names:List (Ba×Hk)) (n:Nat) (af:List (Ba×As)),(∀x c,af.lookup x=some c->c<n)->∀lo,(∀x y c,af.lookup x=some c->af.lookup y=some c->lo<c->x=y) ->
  ∀x y c,(Ht n names af).lookup x=some c->(Ht n names af).lookup y=some c->lo<c->x=y
 | [],_,_,_,_,hi,x,y,c,e1,e2,hc=>hi x y c e1 e2 hc
 | (m,k)::r,n,af,ak,lo,hi,x,y,c,e1,e2,hc=>by
  unfold Ht at e1 e2;by_cases hk:(k==Dz)=true
  .rw[y6 hk]at e1 e2
   have cm:∀z d,((m,n)::af).lookup z=some d->(z=m/\d=n)\/(af.lookup z=some d):=λz d e=>by
    rw[Bq]at e
    cases hx:z==m with
    |true=>rw[hx]at e;cases e;exact .inl ⟨by simpa using hx,rfl⟩
    |false=>rw[hx]at e;exact .inr e
   refine HP r (n+1) _ (λz d e=>?_) lo (λz1 z2 d f1 f2 hd=>?_) x y c e1 e2 hc
   .rcases cm z d e with⟨_,q⟩|q
    .rw[q];exact E4 n
    .exact C5 (ak z d q)
   .rcases cm z1 d f1 with⟨q1,q2⟩|q
    .rcases cm z2 d f2 with⟨p1,_⟩|p
     .rw[q1,p1]
     .exact u3 (ak z2 d p) (by rw[q2];exact Di _)
    .rcases cm z2 d f2 with⟨p1,p2⟩|p
     .exact u3 (ak z1 d q) (by rw[p2];exact Di _)
     .exact hi z1 z2 d q p hd
  .rw[y8 hk]at e1 e2;exact HP r n af ak lo hi x y c e1 e2 hc
section
variable{M:Model}{A:Bz}{E:VP}
def Xs{X:Cx}{scope:Scope}{cl:List (Ba×As)}{Q:O7->Ae->Prop}{s:Ae}(ar:∀x c,cl.lookup x=some c->X.env.cells.lookup x=some c/\(x,C2)∈scope.names)(fB:∀x,(x,C2)∈scope.names->∃c,cl.lookup x=some c)(ak:∀x c,X.env.cells.lookup x=some c->c<s.heap.objs.size)
  (hQ:∀cs h' m,h'.Ns s.heap.objs.size m->(∀b o,s.heap.get? b=some o->h'.get? b=some o)->oD X scope s h' cs ->
   Q (newEnv scope s.heap.objs.size globals cs qual none .none (some X.env) Il) { s with heap:=h',toks:=s.toks+([]:List (Ba×A9)).length }):
  Ah M A (newFunctionEnv scope globals cl [] qual none .none (some X.env)) Q E s:=by
 simp only[newFunctionEnv,Option.isSome_some,if_true];refine A0 (wpAny_alloc ?_);refine A0 (wpAny_layCells _ (λname kind cells=>by cases hkc:kind==Dz<;>simp[hkc]) _ _ _ _ ?_)
 refine A0 ?_;rw[List.forIn_nil];refine x6 (x6 ?_);have hn:∀b o,s.heap.get? b=some o->(pushCells (s.heap.push { cls:=.type "dict",data:=.dict #[] }) scope.names).get? b=some o:=λb o e=>pushCells_keeps _ _ b o (A8 _ e);have sz:(s.heap.push { cls:=.type "dict",data:=.dict #[] }).objs.size=s.heap.objs.size+1:=Dx ..;refine hQ _ _ (λ_=>none) ((Ch.Ns.new s.heap (.type "dict")).keeps (pushCells_keeps _ _)) hn ⟨λx c e=>?_,λx hx=>?_,λx y c e1 e2 hc=>?_⟩
 .rcases HQ scope.names _ cl x c e with z|⟨z1,z2,z3⟩
  .exact .inl (ar x c z)
  .rw[sz]at z1;exact .inr ⟨⋯,z2,z3⟩
 .refine HN _ _ _ x ?_;rcases hx with hx|hx
  .exact .inr (fB x hx)
  .exact .inl hx
 .refine HP scope.names _ cl (λx c e=>?_) s.heap.objs.size (λx y c e1 e2 hc=>?_) x y c e1 e2 hc
  .show c<(s.heap.push { cls:=.type "dict",data:=.dict #[] }).objs.size;rw[sz];exact C5 (ak x c (ar x c e).1)
  .exact u3 (Dv hc (ak x c (ar x c e1).1)) (Di _)
end
theorem HX{env:O7}{x:Ba}:∀{names:List (Ba×Hk)} {k:Hk},
  (names.map λ(n,k)=>if (k==C2&&env.scope.kind==.function&&env.kindOf n==some .cell) then (n,Dz) else (n,k)).lookup x=some k ->
  (names.lookup x=some k\/(k = .cell/\names.lookup x=some .free))
 | [],_,h=>by simp at h
 | (n,k')::r,k,h=>by
  have ih:=@HX env x r k;rw[Ai]at h;dsimp only at h;rw[Bq]
  cases hx:x==n with
  |true=>
   by_cases hc:(k'==C2&&env.scope.kind==.function&&env.kindOf n==some .cell)=true
   .rw[y6 hc,Bq,hx]at h;cases h
    have:k' = .free:=by simp only[B8,beq_iff_eq]at hc;exact hc.1.1
    subst this;exact .inr ⟨rfl,rfl⟩
   .rw[y8 hc,Bq,hx]at h;exact .inl h
  |false=>
   by_cases hc:(k'==C2&&env.scope.kind==.function&&env.kindOf n==some .cell)=true
   .rw[y6 hc,Bq,hx]at h;exact ih h
   .rw[y8 hc,Bq,hx]at h;exact ih h
theorem OA{env:O7}{x:Ba}:∀{names:List (Ba×Hk)},names.lookup x=some .free ->
    ((names.map λ(n,k)=>if (k==C2&&env.scope.kind==.function&&env.kindOf n==some .cell) then (n,Dz) else (n,k)).lookup x=some .cell \/
     (names.map λ(n,k)=>if (k==C2&&env.scope.kind==.function&&env.kindOf n==some .cell) then (n,Dz) else (n,k)).lookup x=some .free)
  | [],h=>by simp at h
  | (n,k')::r,h=>by
    have ih:=@OA env x r
    rw[Ai]
    right
    rw[Bq]at h
    cases hx:x==n with
    |true=>
      rw[hx]at h
      cases h
      by_cases hc:((C2==C2)&&env.scope.kind==.function&&env.kindOf n==some .cell)=true
      · rw[y6 hc,Bq,hx];exact .inl rfl
      · rw[y8 hc,Bq,hx];exact .inr rfl
    |false=>
      rw[hx]at h
      by_cases hc:(k'==C2&&env.scope.kind==.function&&env.kindOf n==some .cell)=true
      · rw[y6 hc,Bq,hx];exact ih h
      · rw[y8 hc,Bq,hx];exact ih h
def sP(X:Cx)(bc:List Expr)(t:TT):Prop:=
 ∀(aa:i6) (s:Ae) (U:St) (H:Hp) (Q:Bool->Hp->Prop),a9 X aa U H s->t U H Q ->
  Ah (Aw X.prog X.w) X.A (forIn bc true λc r=>if r=true then do let ok <-isTrue c X.env (Ec c X.env);Ci (F4 ok) else Ci (F4 r)) (TP X aa U Q) X.xe s
def JI:sP X [] (λ_ H Q=>Q true H):=λ_ _ _ H _ I h=>wpAny_tests_nil ⟨H,I,h⟩
def ϲ(h:PT X c t):sP X [c] t:=λaa s U H Q I hw=>wpAny_tests_one (h aa s U H Q I hw)
def mE(cap:List (Option Nat))(U:St):St:=cap.map λo=>o.bind λj=>(U[j]?).bind id
def xZ(cap:List (Option Nat))(wi:TI)(g:TG)(tt:TT)(te:TE):TE:=λU H Q=>wi U H λJ H1=>∀l,H1 l=none ->
 ∃W:Nat->Nat->St->Hp->List V->Prop,(∃m,W 0 m (mE cap U) (upd H1 l (.lst [])) [])/\∀i m U' H' af,W i m U' H' af ->
  (J.stop i H'/\Q (.ref l) H') \/
  (J.go i H'/\af.length<sizeLine/\∀x H2,J.yld i H' x H2->g x U' H2 λU2 H3=>tt U2 H3 λok H4=>
   if ok=true then te U2 H4 λy H5=>H5 l=some (.lst af)/\∃m',m'<m/\W (i+1) m' U2 (upd H5 l (.lst (af++[y]))) (af++[y])
   else ∃m',m'<m/\W (i+1) m' U2 H4 af)
section
variable{X:Cx}
def ϛ{scope:Scope}{fp:List As}{N:List Ba}{cap:List (Option Nat)}{tk:Nat}(I:a9 X aa U H s)(hk:scope.kind = .function)(ay:∀y∈scope.names,y.2 = .cell->scope.names.lookup y.1=some .cell)(ar:oD X scope s h1 cl)(bK:∀x∈scope.names,x.2 = .free->scope.names.lookup x.1=some .free)(bf:∀(i j:Nat),cap[i]?=some (some j)->∃x,N[i]?=some x/\X.N[j]?=some x/\scope.names.lookup x=some .free/\(X.env.scope.names.lookup x=some .cell\/X.env.scope.names.lookup x=some .free))(ab:cap.length=N.length)(dR:∀b∈fp,qM X aa H b)(dA:∀b∈fp,∃o,s.heap.get? b=some o)(bP:h1.Ns s.heap.objs.size m)(keep:∀b o,s.heap.get? b=some o->h1.get? b=some o):
  a9 (Y6 X N scope cl s.heap.objs.size fp s H) [] (mE cap U) H { s with heap:=h1,toks:=tk }:=by
 have kk:∀x,(compEnvC scope cl s.heap.objs.size X.env).kindOf x=(relabel scope X.env).names.lookup x:=λx=>rfl
 have nost:∀b∈fp,b∉oT X.stack:=λb hb z=>by
  obtain⟨_,f1,f2,_⟩:=dR b hb;rcases Ac.mp (I.stkSub b z) with e|e
  .exact f1 e
  .exact f2 e
 have jl:∀b∈fp,b<s.heap.objs.size:=λb hb=>by obtain⟨o,e⟩:=dA b hb;exact Aj e
 have lts:∀x c,X.env.cells.lookup x=some c->c<s.heap.objs.size:=λx c e=>by obtain⟨v,o,ho,_⟩:=I.cell x c e;exact Aj ho
 have fro:∀x c,(x,C2)∈scope.names->cl.lookup x=some c->X.env.cells.lookup x=some c:=λx c hx e=>by
  rcases ar.old x c e with z|⟨_,_,z⟩
  .exact z.1
  .have z1:=bK _ hx rfl;have z2:=ay _ z rfl;rw[z1]at z2;cases z2
 have eN:∀x,((relabel scope X.env).names.lookup x=some .cell\/(relabel scope X.env).names.lookup x=some .free)->((x,C2)∈scope.names\/(x,Dz)∈scope.names):=λx hx=>by
  have nc:∀{k},scope.names.lookup x=some k->(x,k)∈scope.names:=λh=>Cc h;rcases hx with hx|hx
  .rcases HX hx with z|⟨_,z⟩
   .exact .inr (nc z)
   .exact .inl (nc z)
  .rcases HX hx with z|⟨z,_⟩
   .exact .inl (nc z)
   .cases z
 refine⟨⟨I.ok.mod,hk,I.ok.glob,I.ok.blt,Ad _,λx y c e1 e2=>?inj,λx hx=>ar.has x (eN x hx),λx c hx e=>?cab,I.ok.hd,I.ok.frames,.inl rfl,λb hb=>?exf,I.bs,C7 I.ok.bsz I.sz,λb o e hb=>?noex,nost,I.stack,I.stkFree⟩,
  rfl,I.bare,Un.kept keep,⟨m,bP,λi x v e1 e2 e3=>?loc⟩,λx c e=>?cell,I.hok.fresh (Ad _),λx c e=>?freeC,λp hp=>u3 (show p∈([]:i6) from hp) (by simp),I.hok.kept keep,?len⟩
 case inj=>
  rcases ar.old x c e1 with⟨z,_⟩|⟨z,_⟩
  .rcases ar.old y c e2 with⟨z',_⟩|⟨z',_⟩
   .exact I.ok.inj x y c z z'
   .exact u3 (Dv z' (lts x c z)) (Di _)
  .exact ar.inj x y c e1 e2 z
 case freeC=>
  rcases ar.old x c e with⟨z,_⟩|⟨z,_⟩
  .exact I.freeC x c z
  .exact I.hok.fresh (Dc z)
 case cab=>
  have aH:(match scope.names.lookup x with|some .local=>true|some .cell=>true|_=>false)=true:=hx;rcases ar.old x c e with⟨_,z⟩|⟨z,_⟩
  .have:=bK _ z rfl
   rw[this]at aH;cases aH
  .exact Dc z
 case exf=>
  refine⟨An (jl b hb),λx c e=>?_⟩;rcases ar.old x c e with⟨z,_⟩|⟨z,_⟩
  .exact(dR b hb).2.2.2.2.1 x c z
  .intro q;rw[q]at z;exact u3 (Dv z (jl b hb)) (Di _)
 case noex=>
  obtain⟨_,_,_,f3,_⟩:=dR b hb;rcases f3 with z|z
  .exact I.ok.noex b o e z
  .exact u3 (B3 (Aj (I.ok.bs b o e).1) z) (Di _)
 case loc=>
  have hc:∃j,cap[i]?=some (some j)/\U[j]?=some (some v):=by
   unfold mE at e2;rw[Ao]at e2
   cases fZ:cap[i]? with
   |none=>rw[fZ]at e2;cases e2
   |some o=>
    rw[fZ]at e2
    cases o with
    |none=>cases e2
    |some j=>
     refine⟨j,rfl,?_⟩;have cq:(U[j]?).bind id=some v:=Bi e2
     cases hs:U[j]? with
     |none=>rw[hs]at cq;cases cq
     |some q=>
      rw[hs]at cq
      have:q=some v:=cq
      rw[this]
  obtain⟨j,hj,hv⟩:=hc;obtain⟨y,n1,n2,n3,n4⟩:=bf i j hj
  have exy:y=x:=by
   have:N[i]?=some x:=e1
   rw[n1]at this;exact Bi this
  subst exy;obtain⟨mm,hm,hl⟩:=I.loc;obtain⟨u,r,cm⟩:=hl j y v n2 hv (.inr n4);refine⟨u,r,.inr ⟨OA n3,?_⟩⟩;rcases cm with⟨k,_⟩|⟨k,c,e,z⟩
  .have k':X.env.scope.names.lookup y=some .local:=k;rw[k']at n4;rcases n4 with q|q<;>cases q
  .obtain⟨c',bN⟩:=ar.has y (.inl (Cc n3))
   have:=fro y c' (Cc n3) bN
   rw[e]at this;cases this;obtain⟨o,ho,hd⟩:=z;exact⟨c,bN,o,keep _ _ ho,hd⟩
 case cell=>
  rcases ar.old x c e with⟨z,_⟩|⟨_,z,_⟩
  .obtain⟨v,o,ho,hd⟩:=I.cell x c z;exact⟨v,o,keep _ _ ho,hd⟩
  .exact⟨_,z⟩
 case len=>unfold mE;rw[A3];exact ab
def Ph{cap:List (Option Nat)}(hc:X.calm=true)(hi:PI X ae ag wi)(hg:∀cl C fp s H,PG (Y6 X N scope cl C fp s H) ae g)(ht:∀cl C fp s H,sP (Y6 X N scope cl C fp s H) bc tt)(he:∀cl C fp s H,PE (Y6 X N scope cl C fp s H) ba te)(hk:scope.kind = .function)(ay:∀y∈scope.names,y.2 = .cell->scope.names.lookup y.1=some .cell)(aX:∀x∈scope.names,x.2 = .local->scope.names.lookup x.1=some .local)(bK:∀x∈scope.names,x.2 = .free->scope.names.lookup x.1=some .free)(bp:∀x∈scope.names,x.2 = .free->X.env.scope.names.lookup x.1=some .cell\/X.env.scope.names.lookup x.1=some .free)(bf:∀(i j:Nat),cap[i]?=some (some j)->∃x,N[i]?=some x/\X.N[j]?=some x/\scope.names.lookup x=some .free)(ab:cap.length=N.length)(hs:∀x,Cu ag X.env x=Ci x)(I:a9 X aa U H s)(h:xZ cap wi g tt te U H Q)(post:∀{s3 s6:Ae} {H3 H5:Hp} {U5:St} {cs:List (Ba×As)} {fp:List As} {l:As} {r:Flow},a9 X aa U H3 s3->a9 (Y6 X N scope cs s3.heap.objs.size fp s3 H3) [] U5 H5 s6->(∀b∈fp,qM X aa H3 b)->Q (.ref l) H5->compPost (Aw X.prog X.w) X.A X.xe use Qf (.ref l) s3.heap.objs.size (.ok r) s6):
  Ah (Aw X.prog X.w) X.A (comprehension (.ListComp ba [⟨ae,ag,bc,0⟩] scope pos) scope X.env pc (N7 []) false (Ec ag X.env) use) Qf X.xe s:=by
 obtain⟨cl,iV,ar,fB⟩:=KJ (env:=X.env) (scope:=scope) λx hx hf=>I.ok.has x.1 (bp x hx hf);refine wpAny_comprehension_free (use:=use) rfl hs iV hk aX ?_;show Ah _ _ (Ec ag X.env) _ _ s;refine kY (hi aa s U H _ I h) λv s1 h1=>kY h1 λitv s2 h2=>?_;obtain⟨it,fp,tn,J,H2,rfl,I2,T,fy,f2,hW⟩:=h2;obtain⟨W,⟨m0,w0⟩,turn⟩:=hW s2.heap.objs.size I2.fresh
 refine Bc (Xs (X:=X) (E:=X.xe) ar fB (λx c e=>by
  obtain⟨v,o,ho,_⟩:=I2.cell x c e;show c<(Ch.push _ _).objs.size;rw[Dx]
  exact C5 (Aj ho)) (λcs h4 m4 bP dP dv=>?_))
 dsimp only at bP dP ⊢;have I3:a9 X aa U (upd H2 s2.heap.objs.size (.lst [])) { s2 with heap:=s2.heap.push { cls:=.type "list",dict:=none,data:=.seq ([]:List A9).toArray } }:=I2.lnew (its:=[]) (t':=s2.toks) .nil (Bh _);generalize hs3:({ s2 with heap:=s2.heap.push { cls:=.type "list",dict:=none,data:=.seq ([]:List A9).toArray } }:Ae)=s3 at I3
 have gO:s2.heap.push { cls:=.type "list",dict:=none,data:=.seq ([]:List A9).toArray }=s3.heap:=by rw[<-hs3]
 have hsz3:s3.heap.objs.size=s2.heap.objs.size+1:=by rw[<-gO,Dx]
 rw[gO]at bP dP;have fm:∀b o,s3.heap.get? b=some o->h4.get? b=some o:=dP;have jh:oD X scope s3 h4 cs:=⟨λx c e=>by rw[<-gO];exact dv.old x c e,dv.has,λx y c e1 e2 hc=>dv.inj x y c e1 e2 (by rw[<-gO]at hc;exact hc)⟩
 have fpn:∀b∈fp,(upd H2 s2.heap.objs.size (.lst [])) b=none/\qM X aa (upd H2 s2.heap.objs.size (.lst [])) b:=λb hb=>by
  obtain⟨o,e,_⟩:=T.obj 0 _ fy b hb;have ne:b≠s2.heap.objs.size:=An (Aj e)
  have z:(upd H2 s2.heap.objs.size (.lst [])) b=none:=by rw[j3 ne];exact(f2 b hb).1
  exact⟨z,z,(f2 b hb).2⟩
 have dA:∀b∈fp,∃o,s3.heap.get? b=some o:=λb hb=>by obtain⟨o,e,_⟩:=T.obj 0 _ fy b hb;exact⟨o,by rw[<-gO];exact A8 _ e⟩
 have I4:∀tk,a9 (Y6 X N scope cs s3.heap.objs.size fp s3 (upd H2 s2.heap.objs.size (.lst []))) [] (mE cap U) (upd H2 s2.heap.objs.size (.lst [])) { s3 with heap:=h4,toks:=tk }:=λtk=>
  ϛ I3 hk ay jh bK (λi j e=>by
   obtain⟨x,n1,n2,n3⟩:=bf i j e
   exact⟨x,n1,n2,n3,bp _ (Cc n3) rfl⟩) ab (λb hb=>(fpn b hb).2) dA bP fm
 have st4:tn 0 h4:=T.keep _ _ _ fy λb _ o e=>fm b o (by rw[<-gO];exact A8 _ e)
 have cF:∀{H':Hp},(∀b∈fp,H' b=none)->∀b∈fp,qM (Y6 X N scope cs s3.heap.objs.size fp s3 (upd H2 s2.heap.objs.size (.lst []))) [] H' b:=λ{H'} hn b hb=>by
  obtain⟨o,e⟩:=dA b hb;obtain⟨_,f1,f3,_,f5,_⟩:=f2 b hb;refine⟨hn b hb,An (Aj e),λz=>?_,.inl hb,λx c e=>(jh.old x c e).elim (λz=>f5 x c z.1) (λz q=>u3 (Aj (q▸‹s3.heap.get? b=some o›)) (Nat.not_lt.mpr (Dc z.1))),λp hp=>u3 (show p∈([]:i6) from hp) (by simp)⟩;rcases Ac.mp (I3.stkSub b z) with e'|e'
  .exact f1 e'
  .exact f3 e'
 have loop:∀s4:Ae,s4={ s3 with heap:=h4,toks:=s2.toks+([]:List (Ba×A9)).length } ->
   Eu (Aw X.prog X.w) X.A (.compLoop (.ListComp ba [⟨ae,ag,bc,0⟩] scope pos) 0 (.ref it) (.ref s2.heap.objs.size) (compEnvC scope cs s3.heap.objs.size X.env))
    (compPost (Aw X.prog X.w) X.A X.xe use Qf (.ref s2.heap.objs.size) s3.heap.objs.size) s4:=by
  rintro s4 rfl;refine Wn (λn s'=>∃i U' H' af,a9 (Y6 X N scope cs s3.heap.objs.size fp s3 (upd H2 s2.heap.objs.size (.lst []))) [] U' H' s'/\tn i s'.heap/\(∀b∈fp,H' b=none)/\W i n U' H' af) ?_ m0 ⟨0,_,_,[],I4 _,st4,λb hb=>(fpn b hb).1,w0⟩;rintro n s5 ⟨i,U5,H5,af,I5,gX,fr5,w5⟩;rcases turn i n U5 H5 af w5 with⟨stop,q⟩|⟨go,hz,step⟩
  .refine kY (T.done (Y6 X N scope cs s3.heap.objs.size fp s3 (upd H2 s2.heap.objs.size (.lst []))) rfl rfl rfl hc i [] s5 U5 H5 _ I5 (cF fr5) gX stop) λr s6 ⟨hr,I6⟩=>?_;subst hr;exact post I3 I6 (λb hb=>(fpn b hb).2) q
  .refine kY (T.item (Y6 X N scope cs s3.heap.objs.size fp s3 (upd H2 s2.heap.objs.size (.lst []))) rfl rfl rfl hc i [] s5 U5 H5 _ I5 (cF fr5) gX go) λr s6 ⟨u,hr,h6⟩=>?_;subst hr;refine kY h6 λ_ s7 ⟨x,H7,I7,r7,y7,st7,fr7⟩=>?_;have I7':=I7.pinned (cF fr7) (T.obj _ _ st7);refine kY (hg _ _ _ _ _ _ s7 U5 H7 x u _ I7' r7 (step x H7 y7)) λ_ s8 ⟨U8,H8,I8,q8⟩=>?_;refine kY (ht _ _ _ _ _ _ s8 U8 H8 _ I8 q8) λok s9 ⟨H9,I9,q9⟩=>?_
   have Mx:∀{s':Ae} {U':St} {H':Hp} {aT:List V} {m':Nat},a9 (Y6 X N scope cs s3.heap.objs.size fp s3 (upd H2 s2.heap.objs.size (.lst []))) ([]++zY fp s7.heap) U' H' s'->m'<n->W (i+1) m' U' H' aT ->
     ∃m,m<n/\∃i U'' iC af,a9 (Y6 X N scope cs s3.heap.objs.size fp s3 (upd H2 s2.heap.objs.size (.lst []))) [] U'' iC s'/\tn i s'.heap/\(∀b∈fp,iC b=none)/\W i m U'' iC af:=λ{s' U' H' aT m'} I' hm w'=>by
    refine⟨m',hm,i+1,U',H',aT,I'.unpinned,T.keep _ _ _ st7 λb hb o e=>(I'.pin (b,o) (Ab _ (Ab _ (DG hb e)))).1,λb hb=>?_,w'⟩;obtain⟨o,e,d⟩:=T.obj _ _ st7 b hb;exact(I'.pin (b,o) (Ab _ (Ab _ (DG hb e)))).2.1
   cases ok with
   |false=>rw[y8 Ay]at q9;obtain⟨m',hm,w'⟩:=q9;exact Mx I9 hm w'
   |true=>
    rw[y6 rfl]at q9;show Ah _ _ (Ec ba _) _ _ s9;refine jK (he _ _ _ _ _ _ s9 U8 H9 _ I9 q9) λxv s10 y H10 I10 r10 ⟨hl10,m',hm,w'⟩=>?_;refine jK (KF _ s10 U8 H10 (.ref s2.heap.objs.size) [y] (.ref s2.heap.objs.size) [xv] (λ(_:V) (H':Hp)=>H'=upd H10 s2.heap.objs.size (.lst (af++[y]))) I10 rfl (.cons r10 .nil) ⟨_,af,y,rfl,rfl,hl10,hz,rfl⟩) λ_ s11 _ H11 I11 _ e11=>?_;have e11':H11=upd H10 s2.heap.objs.size (.lst (af++[y])):=e11
    subst e11';exact Mx I11 hm w'
 have hx:∀s4:Ae,s4={ s3 with heap:=h4,toks:=s2.toks+([]:List (Ba×A9)).length }->tn 0 s4.heap:=by rintro s4 rfl;exact st4
 subst hs3;exact codeAny_compStart_list (loop _ rfl) (T.self X.A 0 _ _ _ (hx _ rfl) (loop _ rfl))
def RJ{cap:List (Option Nat)}(hc:X.calm=true)(hi:PI X ae ag wi)(hg:∀cl C fp s H,PG (Y6 X N scope cl C fp s H) ae g)(ht:∀cl C fp s H,sP (Y6 X N scope cl C fp s H) bc tt)(he:∀cl C fp s H,PE (Y6 X N scope cl C fp s H) ba te)(hk:scope.kind = .function)(ay:∀y∈scope.names,y.2 = .cell->scope.names.lookup y.1=some .cell)(aX:∀x∈scope.names,x.2 = .local->scope.names.lookup x.1=some .local)(bK:∀x∈scope.names,x.2 = .free->scope.names.lookup x.1=some .free)(bp:∀x∈scope.names,x.2 = .free->X.env.scope.names.lookup x.1=some .cell\/X.env.scope.names.lookup x.1=some .free)(bf:∀(i j:Nat),cap[i]?=some (some j)->∃x,N[i]?=some x/\X.N[j]?=some x/\scope.names.lookup x=some .free)(ab:cap.length=N.length)(hs:∀x,Cu ag X.env x=Ci x:=by intro _;rfl):
  PE X (.ListComp ba [⟨ae,ag,bc,0⟩] scope pos) (xZ cap wi g tt te):=by
 intro aa s U H Q I h;rw[eval_ListComp];refine Ph (use:=none) hc hi hg ht he hk ay aX bK bp bf ab hs I h λ{s3 s6 H3 H5 U5 cs fp l r} I3 I6 dR q=>?_;obtain⟨m6,hn6,_⟩:=I6.loc;refine⟨m6,hn6,λh' sb=>?_⟩
 have dZ:∀b u,H5 b=some u->b≠s3.heap.objs.size:=λb u e z=>by
  subst z
  have:=I6.free
  rw[show H5 s3.heap.objs.size=none from this]at e;cases e
 refine⟨.ref l,H5,?_,rfl,q⟩;refine I3.call' (s':={ s6 with heap:=h' }) (ch:=fp) I6.os ?_ (λb u e=>?_) I6.bare (λb hb=>?_)
 .have u6:Un (oT X.stack) fp H3 H5 s3.heap s6.heap:=I6.base;have ex:∀b o,s3.heap.get? b=some o->∀o',s6.heap.get? b=some o'->h'.get? b=some o':=λb o e o' e'=>(sb.2 b (An (Aj e))).trans e';exact⟨λb o e n hb hx=>ex b o e _ (u6.keep b o e n hb hx),λb o e n hb hx=>let ⟨sl,z⟩:=u6.slot b o e n hb hx;⟨sl,ex b o e _ z⟩,u6.free,λb o e hx=>let ⟨o',z⟩:=u6.there b o e hx;⟨o',ex b o e _ z⟩,u6.tups,u6.frzs,u6.tbls⟩
 .refine(I6.hok b u e).stay (λc v bN q'=>(sb.2 c ?_).trans q') (λ_ q'=>q') (λ_ _ q'=>q') λ_ _ _ q'=>q';rcases bN with rfl|bN
  .exact dZ _ _ e
  .exact dZ _ _ bN
 .obtain⟨_,f1,_,f3,f5,f6⟩:=dR b hb;exact⟨f3,f1,f5,f6⟩
end
def f7{a1 a2 a3 a4 a5 a6:Sort _}{p q r:a1->a2->a3->a4->a5->a6->Prop}{C:Prop}(h:∃a b c d e f,p a b c d e f/\q a b c d e f/\r a b c d e f)(k:∀a b c d e f,p a b c d e f->q a b c d e f->r a b c d e f->C):C:=by obtain⟨a,b,c,d,e,f,x,y,z⟩:=h;exact k a b c d e f x y z
inductive D where
 |non
 |bl (b:Bool)
 |int (i:Int)
 |str (x:Ba)
 |tup (xs:List D)
 |lst (xs:List D)
 |dct (ks:List d4) (vs:List D)
mutual
def e9(K:A5)(H:Hp):D->V->Prop
 | .non,v=>v=V.non
 | .bl b,v=>v=V.bl b
 | .int i,v=>v=V.int i
 | .str x,v=>v=V.str x
 | .tup ds,v=>∃a xs,v=V.ref a/\i8 K H a xs/\J3 K H ds xs
 | .lst ds,v=>∃a xs,v=V.ref a/\i7 K H a xs/\J3 K H ds xs
 | .dct ks ds,v=>∃a kvs,v=V.ref a/\H a=some (HO.dK kvs)/\kvs.map (·.1)=ks/\J3 K H ds (kvs.map (·.2))
def J3(K:A5)(H:Hp):List D->List V->Prop
 | [],xs=>xs=[]
 |d::ds,xs=>∃v vs,xs=v::vs/\e9 K H d v/\J3 K H ds vs
end
section
variable{K:A5}{H H':Hp}
def j5:e9 K H (.tup ds) v↔∃a xs,v=V.ref a/\i8 K H a xs/\J3 K H ds xs:=by rw[e9]
def K6:e9 K H (.lst ds) v↔∃a xs,v=V.ref a/\i7 K H a xs/\J3 K H ds xs:=by rw[e9]
def mQ:e9 K H (.dct ks ds) v↔∃a kvs,v=V.ref a/\H a=some (HO.dK kvs)/\kvs.map (·.1)=ks/\J3 K H ds (kvs.map (·.2)):=by rw[e9]
def v7:e9 K H (.int i) v↔v=V.int i:=by rw[e9]
def Q3:e9 K H (.bl i) v↔v=V.bl i:=by rw[e9]
def mB:e9 K H (.str i) v↔v=V.str i:=by rw[e9]
def mJ:e9 K H .non v↔v=V.non:=by rw[e9]
def J9:J3 K H [] xs↔xs=[]:=by rw[J3]
def j7{d:D}{ds:List D}:J3 K H (d::ds) xs↔∃v vs,xs=v::vs/\e9 K H d v/\J3 K H ds vs:=by rw[J3]
def j9(e:J4 H H')(h:i8 K H a xs):i8 K H' a xs:=by
 rcases h with (h|⟨o,h⟩)|h
 .exact .inl (.inl (e _ _ h))
 .exact .inl (.inr ⟨o,e _ _ h⟩)
 .exact .inr h
mutual
theorem e9.mono(e:J4 H H'):∀{d:D} {v:V},e9 K H d v->e9 K H' d v
 | .non,_,h=>by rw[mJ]at h ⊢;exact h
 | .bl _,_,h=>by rw[Q3]at h ⊢;exact h
 | .int _,_,h=>by rw[v7]at h ⊢;exact h
 | .str _,_,h=>by rw[mB]at h ⊢;exact h
 | .tup ds,_,h=>by rw[j5]at h ⊢;obtain⟨a,xs,h1,h2,h3⟩:=h;exact⟨a,xs,h1,j9 e h2,J3.mono e h3⟩
 | .lst ds,_,h=>by rw[K6]at h ⊢;obtain⟨a,xs,h1,h2,h3⟩:=h;exact⟨a,xs,h1,e.seq h2,J3.mono e h3⟩
 | .dct ks ds,_,h=>by rw[mQ]at h ⊢;obtain⟨a,kvs,h1,h2,h3,h4⟩:=h;exact⟨a,kvs,h1,e _ _ h2,h3,J3.mono e h4⟩
theorem J3.mono(e:J4 H H'):∀{ds:List D} {xs:List V},J3 K H ds xs->J3 K H' ds xs
 | [],_,h=>by rw[J9]at h ⊢;exact h
 |d::ds,_,h=>by rw[j7]at h ⊢;obtain⟨v,vs,h1,h2,h3⟩:=h;exact⟨v,vs,h1,e9.mono e h2,J3.mono e h3⟩
end
theorem J3.length:∀{ds:List D} {xs:List V},J3 K H ds xs->ds.length=xs.length
 | [],_,h=>by rw[J9]at h;subst h;rfl
 |d::ds,_,h=>by rw[j7]at h;obtain⟨v,vs,rfl,_,h3⟩:=h;rw[Au,Au,J3.length h3]
theorem J3.get:∀{ds:List D} {xs:List V} {i:Nat} {d:D},J3 K H ds xs->ds[i]?=some d->∃v,xs[i]?=some v/\e9 K H d v
 | [],_,_,_,_,e=>by simp at e
 |d::ds,_,i,d',h,e=>by
  rw[j7]at h;obtain⟨v,vs,rfl,h2,h3⟩:=h
  cases i with
  |zero=>simp at e;subst e;exact⟨v,rfl,h2⟩
  |succ i=>simpa using J3.get (i:=i) h3 (by simpa using e)
theorem J3.at:∀{ds:List D} {xs:List V} {i:Nat} {v:V},J3 K H ds xs->xs[i]?=some v->∃d,ds[i]?=some d/\e9 K H d v
 | [],_,_,_,h,e=>by rw[J9]at h;subst h;simp at e
 |d::ds,_,i,v',h,e=>by
  rw[j7]at h;obtain⟨v,vs,rfl,h2,h3⟩:=h
  cases i with
  |zero=>simp at e;subst e;exact⟨d,rfl,h2⟩
  |succ i=>simpa using J3.at (i:=i) h3 (by simpa using e)
theorem J3.append:∀{ds es:List D} {xs ys:List V},J3 K H ds xs->J3 K H es ys->J3 K H (ds++es) (xs++ys)
 | [],_,_,_,h,h'=>by rw[J9]at h;subst h;exact h'
 |d::ds,_,_,_,h,h'=>by rw[j7]at h;obtain⟨v,vs,rfl,h2,h3⟩:=h;exact j7.mpr ⟨v,_,rfl,h2,J3.append h3 h'⟩
def J3.one(h:e9 K H d v):J3 K H [d] [v]:=j7.mpr ⟨v,[],rfl,h,J9.mpr rfl⟩
def J3.cons(h:e9 K H d v)(t:J3 K H ds xs):J3 K H (d::ds) (v::xs):=j7.mpr ⟨v,xs,rfl,h,t⟩
def J3.nil:J3 K H [] []:=J9.mpr rfl
theorem J3.take:∀{ds:List D} {xs:List V} (n:Nat),J3 K H ds xs->J3 K H (ds.take n) (xs.take n)
 |_,_,0,_=>J9.mpr rfl
 | [],_,n+1,h=>by rw[J9]at h;subst h;exact J9.mpr rfl
 |d::ds,_,n+1,h=>by rw[j7]at h;obtain⟨v,vs,rfl,h2,h3⟩:=h;exact J3.cons h2 (J3.take n h3)
theorem J3.drop:∀{ds:List D} {xs:List V} (n:Nat),J3 K H ds xs->J3 K H (ds.drop n) (xs.drop n)
 |_,_,0,h=>h
 | [],_,n+1,h=>by rw[J9]at h;subst h;exact J9.mpr rfl
 |d::ds,_,n+1,h=>by rw[j7]at h;obtain⟨v,vs,rfl,h2,h3⟩:=h;exact J3.drop n h3
theorem J3.eraseIdx:∀{ds:List D} {xs:List V} (n:Nat),J3 K H ds xs->J3 K H (ds.eraseIdx n) (xs.eraseIdx n)
 | [],_,n,h=>by rw[J9]at h;subst h;exact J9.mpr rfl
 |d::ds,_,0,h=>by rw[j7]at h;obtain⟨v,vs,rfl,h2,h3⟩:=h;exact h3
 |d::ds,_,n+1,h=>by rw[j7]at h;obtain⟨v,vs,rfl,h2,h3⟩:=h;exact J3.cons h2 (J3.eraseIdx n h3)
theorem J3.rep(h:J3 K H ds xs):∀k:Nat,J3 K H (Bf k ds).flatten (Bf k xs).flatten
 | 0=>J9.mpr rfl
 |k+1=>by rw[Es,Es,Fy,Fy];exact J3.append h (J3.rep h k)
theorem Y9:∀{ns:List Int} {xs:List V},J3 K H (ns.map D.int) xs↔xs=ns.map V.int
 | [],xs=>by rw[Go,J9,Go]
 |n::ns,xs=>by
  rw[Ai,j7,Ai];constructor
  .rintro ⟨v,vs,rfl,h2,h3⟩;rw[v7]at h2;rw[Y9]at h3;rw[h2,h3]
  .rintro rfl;exact⟨_,_,rfl,v7.mpr rfl,Y9.mpr rfl⟩
end
def K0(Z:List As)(H:Hp):Hp:=λb=>if b∈Z then none else H b
section
variable{Z B:List As}{H H':Hp}{a:As}{o:HO}
def Ž(h:a∈Z):K0 Z H a=none:=y6 h
def K8(h:a∉Z):K0 Z H a=H a:=y8 h
def Z4(h:K0 Z H a=some o):a∉Z/\H a=some o:=by
 by_cases hz:a∈Z
 .rw[Ž hz]at h;cases h
 .rw[K8 hz]at h;exact⟨hz,h⟩
def v4:J4 (K0 Z H) H:=λb o h=>(Z4 h).2
def x9(e:J4 H H'):J4 (K0 Z H) (K0 Z H'):=λb o h=>by obtain⟨h1,h2⟩:=Z4 h;rw[K8 h1];exact e b o h2
def qD(h:∀b∈B,b∈Z):J4 (K0 Z H) (K0 B H):=λb o q=>by obtain⟨h1,h2⟩:=Z4 q;rw[K8 λz=>h1 (h b z)];exact h2
def rC(hn:H a=none)(e:J4 H H'):J4 (K0 Z H) (K0 (a::Z) H'):=λb u q=>by
 obtain⟨h1,h2⟩:=Z4 q
 have ne:b≠a:=λz=>by rw[z,hn]at h2;cases h2
 rw[K8 (by rw[Ac];exact λz=>z.elim ne h1)]
 exact e b u h2
def qY(h:a∈Z):J4 (K0 Z H) (K0 Z (upd H a o)):=λb u q=>by
 obtain⟨h1,h2⟩:=Z4 q;have ne:b≠a:=λz=>h1 (by rw[z];exact h)
 rw[K8 h1,j3 ne];exact h2
def u9(hn:H a=none):J4 H (upd H a o):=λb u q=>by rw[j3 (Z0 q hn)];exact q
def t7{H0:Hp}(hn:H0 a=none)(e:J4 H0 H):J4 H0 (upd H a o):=λb u q=>by
 have ne:b≠a:=λz=>by rw[z,hn]at q;cases q
 rw[j3 ne];exact e b u q
end
inductive OC where
 |l (ds:List D)
 |d (ks:List d4) (vs:List D)
inductive Cell where
 |sh (d:D)
 |ow (ds:List D)
 |od (ks:List d4) (vs:List D)
def Cell.oc:Cell->Option OC
 | .sh _=>none
 | .ow ds=>some (.l ds)
 | .od ks vs=>some (.d ks vs)
def OC.cell:OC->Cell
 | .l ds=>.ow ds
 | .d ks vs=>.od ks vs
def OC.dat:OC->D
 | .l ds=>.lst ds
 | .d ks vs=>.dct ks vs
def OC.cell_oc(c:OC):c.cell.oc=some c:=by cases c<;>rfl
def pT(K:A5)(H:Hp):OC->HO->Prop
 | .l ds,o=>∃xs,o=HO.lst xs/\J3 K H ds xs
 | .d ks ds,o=>∃kvs,o=HO.dK kvs/\kvs.map (·.1)=ks/\J3 K H ds (kvs.map (·.2))
theorem pT.mono{K:A5}{H H':Hp}(e:J4 H H'):∀{c:OC} {o:HO},pT K H c o->pT K H' c o
 | .l ds,o,⟨xs,h1,h2⟩=>⟨xs,h1,h2.mono e⟩
 | .d ks ds,o,⟨kvs,h1,h2,h3⟩=>⟨kvs,h1,h2,h3.mono e⟩
theorem pT.rep{K:A5}{H:Hp}{a:As}:∀{c:OC} {o:HO},pT K H c o->H a=some o->e9 K H c.dat (.ref a)
 | .l ds,o,⟨xs,h1,h2⟩,e=>K6.mpr ⟨a,xs,rfl,i7.of (by rw[e,h1]),h2⟩
 | .d ks ds,o,⟨kvs,h1,h2,h3⟩,e=>mQ.mpr ⟨a,kvs,rfl,by rw[e,h1],h2,h3⟩
abbrev J5:=List (Option Cell)
abbrev EL:=J5->Option (List D)
abbrev ED:=J5->Option D
abbrev EB:=J5->Option Bool
abbrev LD:=List D->Option D
abbrev sC(d:D):Option Cell:=some (.sh d)
def SC:List Ba:=["ties_over","queue_pages","hardest_tie","as_laid_on"]
def AI(vs:Array A9):Bool:=match (vs[1]?:Option A9) with|some (.str q _)=>SC.contains q|_=>false
def TB(K:A5)(H:Hp):Prop:=∀c o vs P,K.lookup c=some o->o.cls = .type "code"->o.data = .fields vs->vs[11]?=some (.ref P)->K.lookup P=none->AI vs=true ->
 ∃q t,vs[1]?=some (.str q t)/\H P=some (.tbl #[.str q 0])
def TB.mono{K:A5}{H H':Hp}(h:TB K H)(e:J4 H H'):TB K H':=λc o vs P h1 h2 h3 h4 h5 h6=>let ⟨q,t,e1,e2⟩:=h c o vs P h1 h2 h3 h4 h5 h6;⟨q,t,e1,e _ _ e2⟩
def TB.upd{K:A5}{H:Hp}{a:As}{o u:HO}(h:TB K H)(ha:H a=some u)(hu:∀ps,u≠.tbl ps):TB K (upd H a o):=λc ob vs P h1 h2 h3 h4 h5 h6=>by
 obtain⟨q,t,e1,e2⟩:=h c ob vs P h1 h2 h3 h4 h5 h6;refine⟨q,t,e1,?_⟩;rw[j3]
 .exact e2
 .rintro rfl;rw[e2]at ha;exact hu _ (Bi ha).symm
theorem pT.notbl{K:A5}{H:Hp}:∀{c:OC} {o:HO},pT K H c o->∀ps,o≠.tbl ps
 | .l ds,o,⟨xs,h1,_⟩,ps=>by rw[h1];intro z;cases z
 | .d ks ds,o,⟨kvs,h1,_⟩,ps=>by rw[h1];intro z;cases z
structure SR(K:A5)(B:List As)(H0 V0 H:Hp)(Z:List As)(U:St)(Y:J5):Prop where
 same:J4 H0 H
 tb:TB K H
 vis:J4 V0 (K0 Z H)
 sub:∀b∈B,b∈Z
 zs:∀z∈Z,∃o,H z=some o
 sh:∀(i:Nat) d,Y[i]?=some (some (.sh d))->∃v,U[i]?=some (some v)/\e9 K (K0 Z H) d v
 own:∀(i:Nat) (c:OC),Y[i]?=some (some c.cell)->∃a o,U[i]?=some (some (.ref a))/\a∈Z/\a∉B/\H0 a=none/\H a=some o/\pT K (K0 Z H) c o
 inj:∀(i j:Nat) (c e:OC) a,Y[i]?=some (some c.cell)->Y[j]?=some (some e.cell)->U[i]?=some (some (.ref a))->U[j]?=some (some (.ref a))->i=j
 len:U.length=Y.length
section
variable{K:A5}{B Z:List As}{H0 V0 H H':Hp}{U:St}{Y:J5}
def SR.ow(r:SR K B H0 V0 H Z U Y)(i:Nat)(ds:List D)(h:Y[i]?=some (some (.ow ds))):∃a xs,U[i]?=some (some (.ref a))/\a∈Z/\a∉B/\H0 a=none/\H a=some (.lst xs)/\J3 K (K0 Z H) ds xs:=by obtain⟨a,o,h1,h2,h3,h4,h5,xs,rfl,h7⟩:=r.own i (.l ds) h;exact⟨a,xs,h1,h2,h3,h4,h5,h7⟩
def SR.od(r:SR K B H0 V0 H Z U Y)(i:Nat)(ks:List d4)(ds:List D)(h:Y[i]?=some (some (.od ks ds))):∃a kvs,U[i]?=some (some (.ref a))/\a∈Z/\a∉B/\H0 a=none/\H a=some (.dK kvs)/\kvs.map (·.1)=ks/\J3 K (K0 Z H) ds (kvs.map (·.2)):=by obtain⟨a,o,h1,h2,h3,h4,h5,kvs,rfl,h7,h8⟩:=r.own i (.d ks ds) h;exact⟨a,kvs,h1,h2,h3,h4,h5,h7,h8⟩
def SR.mono(r:SR K B H0 V0 H Z U Y)(e:J4 H H'):SR K B H0 V0 H' Z U Y:=
 ⟨r.same.trans e,r.tb.mono e,r.vis.trans (x9 e),r.sub,λz hz=>let ⟨o,h⟩:=r.zs z hz;⟨o,e _ _ h⟩,
  λi d h=>let ⟨v,h1,h2⟩:=r.sh i d h;⟨v,h1,h2.mono (x9 e)⟩,
  λi c h=>let ⟨a,o,h1,h2,hb,h3,h4,h5⟩:=r.own i c h;⟨a,o,h1,h2,hb,h3,e _ _ h4,h5.mono (x9 e)⟩,r.inj,r.len⟩
def SR.vis'(r:SR K B H0 V0 H Z U Y)(e:J4 V1 (K0 Z H)):SR K B H0 V1 H Z U Y:=
 ⟨r.same,r.tb,e,r.sub,r.zs,r.sh,r.own,r.inj,r.len⟩
def SR.newer(r:SR K B H0 V0 H Z U Y)(h:H a=none):a∉Z:=λz=>by obtain⟨o,e⟩:=r.zs a z;rw[h]at e;cases e
def SR.more(r:SR K B H0 V0 H Z U Y){o:HO}(hn:H a=none)(e:J4 H H')(ha:H' a=some o):SR K B H0 V0 H' (a::Z) U Y:=
 ⟨r.same.trans e,r.tb.mono e,r.vis.trans (rC hn e),λb hb=>A7 _ (r.sub b hb),λz hz=>(Ac.mp hz).elim (λq=>⟨o,q▸ha⟩) λq=>let ⟨u,h⟩:=r.zs z q;⟨u,e _ _ h⟩,
  λi d h=>let ⟨v,h1,h2⟩:=r.sh i d h;⟨v,h1,h2.mono (rC hn e)⟩,
  λi c h=>let ⟨b,o,h1,h2,hb,h3,h4,h5⟩:=r.own i c h;⟨b,o,h1,A7 _ h2,hb,h3,e _ _ h4,h5.mono (rC hn e)⟩,r.inj,r.len⟩
def mK{α:Type}{Y:List (Option α)}{i j:Nat}{x y:α}(q:(Y.set i (some x))[j]?=some (some y)):(i=j/\x=y/\i<Y.length)\/(i≠j/\Y[j]?=some (some y)):=by
 by_cases hj:i=j
 .subst hj
  have hl:i<Y.length:=by
   have:=(B0.mp q).1
   rw[D1]at this;exact this
  rw[Ck hl]at q;cases q;exact .inl ⟨rfl,rfl,hl⟩
 .rw[Bb hj]at q;exact .inr ⟨hj,q⟩
def oY{c:OC}:Cell.sh d=c.cell->False:=λe=>by cases c<;>cases e
def Si{c e:OC}(h:c.cell=e.cell):c=e:=by
 have:=lE Cell.oc h
 rw[c.cell_oc,e.cell_oc]at this;exact Bi this
def SR.set(r:SR K B H0 V0 H Z U Y)(h:e9 K (K0 Z H) d v):SR K B H0 V0 H Z (U.set i (some v)) (Y.set i (some (.sh d))):=by
 refine⟨r.same,r.tb,r.vis,r.sub,r.zs,λj e q=>?_,λj c q=>?_,λj k c e a q1 q2 s1 s2=>?_,by rw[D1,D1];exact r.len⟩
 .rcases mK q with⟨rfl,z,hl⟩|⟨hj,q⟩
  .cases z;exact⟨v,Ck (by rw[r.len];exact hl),h⟩
  .obtain⟨u,h1,h2⟩:=r.sh j e q;exact⟨u,by rw[Bb hj];exact h1,h2⟩
 .rcases mK q with⟨_,z,_⟩|⟨hj,q⟩
  .exact(oY z).elim
  .obtain⟨a,o,h1,h2⟩:=r.own j c q;exact⟨a,o,by rw[Bb hj];exact h1,h2⟩
 .rcases mK q1 with⟨_,z,_⟩|⟨n1,q1⟩
  .exact(oY z).elim
  rcases mK q2 with⟨_,z,_⟩|⟨n2,q2⟩
  .exact(oY z).elim
  rw[Bb n1]at s1;rw[Bb n2]at s2;exact r.inj j k c e a q1 q2 s1 s2
def SR.setO(r:SR K B H0 V0 H Z U Y){a:As}{o:HO}(hz:a∈Z)(hb:a∉B)(h0:H0 a=none)(hH:H a=some o)(h:pT K (K0 Z H) c o)(hn:∀(j:Nat) (e:OC),Y[j]?=some (some e.cell)->U[j]?≠some (some (.ref a))):SR K B H0 V0 H Z (U.set i (some (.ref a))) (Y.set i (some c.cell)):=by
 refine⟨r.same,r.tb,r.vis,r.sub,r.zs,λj e q=>?_,λj e q=>?_,λj k fs gs b q1 q2 s1 s2=>?_,by rw[D1,D1];exact r.len⟩
 .rcases mK q with⟨_,z,_⟩|⟨hj,q⟩
  .exact(oY z.symm).elim
  .obtain⟨u,h1,h2⟩:=r.sh j e q;exact⟨u,by rw[Bb hj];exact h1,h2⟩
 .rcases mK q with⟨rfl,z,hl⟩|⟨hj,q⟩
  .have:=Si z
   subst this;exact⟨a,o,Ck (by rw[r.len];exact hl),hz,hb,h0,hH,h⟩
  .obtain⟨a',o',h1,h2⟩:=r.own j e q;exact⟨a',o',by rw[Bb hj];exact h1,h2⟩
 .rcases mK q1 with⟨e1,_,hl⟩|⟨n1,q1⟩
  .rcases mK q2 with⟨e2,_,_⟩|⟨n2,q2⟩
   .rw[<-e1,<-e2]
   .subst e1;rw[Ck (by rw[r.len];exact hl)]at s1
    cases s1;rw[Bb n2]at s2;exact u3 s2 (hn k gs q2)
  .rw[Bb n1]at s1;rcases mK q2 with⟨e2,_,hl⟩|⟨n2,q2⟩
   .subst e2;rw[Ck (by rw[r.len];exact hl)]at s2
    cases s2;exact u3 s1 (hn j fs q1)
   .rw[Bb n2]at s2;exact r.inj j k fs gs b q1 q2 s1 s2
def SR.updC(r:SR K B H0 V0 H Z U Y){i:Nat}{c e:OC}(hi:Y[i]?=some (some c.cell))(hs:U[i]?=some (some (.ref a)))(h:pT K (K0 Z H) e o):
  SR K B H0 V0 (upd H a o) Z U (Y.set i (some e.cell)):=by
 obtain⟨a',o',s1,hz,hb,h0,hH,hld⟩:=r.own i c hi;rw[hs]at s1;cases s1;have vs:J4 (K0 Z H) (K0 Z (upd H a o)):=qY hz;refine⟨t7 h0 r.same,r.tb.upd hH hld.notbl,r.vis.trans vs,r.sub,λz q=>?_,λj d q=>?_,λj f q=>?_,λj k fs gs b q1 q2 s1 s2=>?_,by rw[D1];exact r.len⟩
 .by_cases e:z=a
  .subst e;exact⟨_,w6⟩
  .obtain⟨o,ho⟩:=r.zs z q;exact⟨o,by rw[j3 e];exact ho⟩
 .rcases mK q with⟨_,z,_⟩|⟨n,q⟩
  .exact(oY z.symm).elim
  .obtain⟨u,h1,h2⟩:=r.sh j d q;exact⟨u,h1,h2.mono vs⟩
 .rcases mK q with⟨rfl,z,_⟩|⟨n,q⟩
  .have:=Si z
   subst this;exact⟨a,o,hs,hz,hb,h0,w6,h.mono vs⟩
  .obtain⟨b,zs,t1,t2,tb,t3,t4,t5⟩:=r.own j f q
   have ne:b≠a:=λz=>by subst z;exact n (r.inj i j _ _ b hi q hs t1)
   exact⟨b,zs,t1,t2,tb,t3,by rw[j3 ne];exact t4,t5.mono vs⟩
 .have g:∀{m:Nat} {fs:OC},(Y.set i (some e.cell))[m]?=some (some fs.cell)->∃fs':OC,Y[m]?=some (some fs'.cell):=λ{m fs} q=>by
   rcases mK q with⟨rfl,_,_⟩|⟨_,q⟩
   .exact⟨c,hi⟩
   .exact⟨fs,q⟩
  obtain⟨f1,p1⟩:=g q1;obtain⟨f2,p2⟩:=g q2;exact r.inj j k f1 f2 b p1 p2 s1 s2
def SR.updO(r:SR K B H0 V0 H Z U Y){i:Nat}(hi:Y[i]?=some (some (.ow ds)))(hs:U[i]?=some (some (.ref a)))(h:J3 K (K0 Z H) es ys):
  SR K B H0 V0 (upd H a (.lst ys)) Z U (Y.set i (some (.ow es))):=r.updC (c:=.l ds) (e:=.l es) hi hs ⟨ys,rfl,h⟩
end
def tD(K:A5)(f:ED):TE:=λU H Q=>∃Y d B H0 V0 Z,f Y=some d/\SR K B H0 V0 H Z U Y/\∀v H',J4 H H'->e9 K (K0 Z H') d v->Q v H'
def tQ(K:A5)(f:EL):TE:=λU H Q=>∃Y ds B H0 V0 Z,f Y=some ds/\SR K B H0 V0 H Z U Y/\∀a xs H',J4 H H'->(i7 K H' a xs\/i8 K (K0 Z H') a xs)->J3 K (K0 Z H') ds xs->Q (.ref a) H'
def tF(K:A5)(f:EL):TE:=λU H Q=>∃Y ds B H0 V0 Z,f Y=some ds/\SR K B H0 V0 H Z U Y/\∀a xs H',J4 H H'->H a=none->H' a=some (.lst xs)->J3 K (K0 (a::Z) H') ds xs->Q (.ref a) H'
def tT(K:A5)(f:EB):TT:=λU H Q=>∃Y b B H0 V0 Z,f Y=some b/\SR K B H0 V0 H Z U Y/\∀H',J4 H H'->Q b H'
def tL(K:A5)(f:EL):TA:=λU H Q=>∃Y ds B H0 V0 Z,f Y=some ds/\SR K B H0 V0 H Z U Y/\∀xs H',J4 H H'->J3 K (K0 Z H') ds xs->Q xs H'
structure qP(K:A5)(V:Hp)(J:It)(ds:List D):Prop where
 go:∀H',J4 V H'->∀i,i<ds.length->J.go i H'
 yld:∀H',J4 V H'->∀(i:Nat) x H3,J.yld i H' x H3->J4 H' H3/\∀d,ds[i]?=some d->∀Z:List As,(∀z∈Z,∃o,H' z=some o)->J4 V (K0 Z H')->e9 K (K0 Z H3) d x
 stop:∀H',J4 V H'->J.stop ds.length H'
def tI(K:A5)(f:EL):TI:=λU H R=>∃Y ds B H0 V0 Z,f Y=some ds/\SR K B H0 V0 H Z U Y/\∀J H',J4 H H'->qP K (K0 Z H') J ds->R J H'
inductive Out where
 |nx (Y:J5)
 |bk (Y:J5)
 |ct (Y:J5)
 |rt (d:D)
abbrev EO:=J5->Option Out
def v0Q(K:A5)(B:List As)(H0 V0:Hp)(E:qR):Out->Prop
 | .nx Y=>∀U H Z,SR K B H0 V0 H Z U Y->E.nx U H
 | .bk Y=>∀U H Z,SR K B H0 V0 H Z U Y->E.bk U H
 | .ct Y=>∀U H Z,SR K B H0 V0 H Z U Y->E.ct U H
 | .rt d=>∀v H,J4 H0 H->e9 K (K0 B H) d v->E.rt v H
def tS(K:A5)(g:EO):TS:=λE U H=>∃Y o B H0 V0 Z,g Y=some o/\SR K B H0 V0 H Z U Y/\v0Q K B H0 V0 E o
def tG(K:A5)(h:D->J5->Option J5):TG:=λv U H Q=>∃Y d Y' B H0 V0 Z,h d Y=some Y'/\SR K B H0 V0 H Z U Y/\e9 K (K0 Z H) d v/\∀U',SR K B H0 V0 H Z U' Y'->Q U' H
def tGs(K:A5)(h:List D->J5->Option J5):vY:=λvs U H Q=>∃Y ds Y' B H0 V0 Z,h ds Y=some Y'/\SR K B H0 V0 H Z U Y/\J3 K (K0 Z H) ds vs/\∀U',SR K B H0 V0 H Z U' Y'->Q U' H
abbrev SE(X:Cx)(e:Expr)(f:ED):Prop:=PE X e (tD X.K f)
structure ZE(X:Cx)(e:Expr)(f:ED):Prop where
 h:SE X e f
abbrev SQ(X:Cx)(e:Expr)(f:EL):Prop:=PE X e (tQ X.K f)
structure ZQ(X:Cx)(e:Expr)(f:EL):Prop where
 h:SQ X e f
abbrev SF(X:Cx)(e:Expr)(f:EL):Prop:=PE X e (tF X.K f)
structure ZF(X:Cx)(e:Expr)(f:EL):Prop where
 h:SF X e f
abbrev vZ(X:Cx)(e:Expr)(f:EB):Prop:=PT X e (tT X.K f)
structure ZT(X:Cx)(e:Expr)(f:EB):Prop where
 h:vZ X e f
abbrev STw(X:Cx)(e:Expr)(f:EB):Prop:=PW X e (tT X.K f)
structure ZW(X:Cx)(e:Expr)(f:EB):Prop where
 h:STw X e f
abbrev SA(X:Cx)(es:List Expr)(f:EL):Prop:=PA X es (tL X.K f)
structure ZA(X:Cx)(e:List Expr)(f:EL):Prop where
 h:SA X e f
abbrev SI(X:Cx)(tg e:Expr)(f:EL):Prop:=PI X tg e (tI X.K f)
structure ZI(X:Cx)(tg e:Expr)(f:EL):Prop where
 h:SI X tg e f
abbrev SS(X:Cx)(st:Dl)(g:EO):Prop:=PS X st (tS X.K g)
structure ZS(X:Cx)(e:Dl)(f:EO):Prop where
 h:SS X e f
abbrev GG(X:Cx)(st:List Dl)(g:EO):Prop:=nI X st (tS X.K g)
structure ZB(X:Cx)(e:List Dl)(f:EO):Prop where
 h:GG X e f
abbrev SG(X:Cx)(e:Expr)(h:D->J5->Option J5):Prop:=PG X e (tG X.K h)
structure ZG(X:Cx)(e:Expr)(f:D->J5->Option J5):Prop where
 h:SG X e f
abbrev SGs(X:Cx)(es:List Expr)(h:List D->J5->Option J5):Prop:=wA X es (tGs X.K h)
structure GF(X:Cx)(e:List Expr)(f:List D->J5->Option J5):Prop where
 h:SGs X e f
structure ZP(X:Cx)(bc:List Expr)(f:EB):Prop where
 h:sP X bc (tT X.K f)
section
variable{X:Cx}{e:Expr}
def j6{t t':TE}(h:PE X e t)(w:∀U H Q,t' U H Q->t U H Q):PE X e t':=λaa s U H Q I q=>h aa s U H Q I (w U H Q q)
def qB{t t':TT}(h:PT X e t)(w:∀U H Q,t' U H Q->t U H Q):PT X e t':=λaa s U H Q I q=>h aa s U H Q I (w U H Q q)
def RQ{t t':TT}(h:PW X e t)(w:∀U H Q,t' U H Q->t U H Q):PW X e t':=λwh aa s U H Q I q=>h wh aa s U H Q I (w U H Q q)
def RG{t t':TA}(h:PA X es t)(w:∀U H Q,t' U H Q->t U H Q):PA X es t':=λpos aa s U H Q I q=>h pos aa s U H Q I (w U H Q q)
def tP{t t':TI}(h:PI X tg e t)(w:∀U H Q,t' U H Q->t U H Q):PI X tg e t':=λaa s U H Q I q=>h aa s U H Q I (w U H Q q)
def mY{st:Dl}{t t':TS}(h:PS X st t)(w:∀E U H,t' E U H->t E U H):PS X st t':=λaa s U H E I q=>h aa s U H E I (w E U H q)
def yY{st:List Dl}{t t':TS}(h:nI X st t)(w:∀E U H,t' E U H->t E U H):nI X st t':=λaa s U H E I q=>h aa s U H E I (w E U H q)
def RK{t t':TG}(h:PG X e t)(w:∀v U H Q,t' v U H Q->t v U H Q):PG X e t':=λaa s U H v u Q I r q=>h aa s U H v u Q I r (w v U H Q q)
def S8{t t':vY}(h:wA X es t)(w:∀v U H Q,t' v U H Q->t v U H Q):wA X es t':=λaa s U H v u Q I r q=>h aa s U H v u Q I r (w v U H Q q)
end
def f8:Nat:=100000
def vL{n:Nat}(h:n<=f8):n<=sizeLine:=by rw[Bk];unfold f8 at h;omega
def zW{n:Nat}(h:n<=f8):n<sizeLine:=by rw[Bk];unfold f8 at h;omega
def y3(i:Nat):ED:=λY=>match Y[i]? with|some (some (.sh d))=>some d|_=>none
def kK(i:Nat):EL:=λY=>match Y[i]? with|some (some (.ow ds))=>some ds|_=>none
def dC(d:D):ED:=λ_=>some d
def Pi{d:D}(e:y3 i Y=some d):Y[i]?=some (some (.sh d)):=by
 unfold y3 at e;split at e
 .rename_i h;cases e;exact h
 .cases e
def tZ{d:List D}(e:kK i Y=some d):Y[i]?=some (some (.ow d)):=by
 unfold kK at e;split at e
 .rename_i h;cases e;exact h
 .cases e
section
variable{X:Cx}
def a8(i:Nat){x:Ba}(hN:X.N[i]?=some x:=by rfl)(hv:mS X.env.scope x:=by first|exact E7 rfl|exact D3 (E7 rfl)|exact D3 (D3 rfl))(hd:(x==("__debug__":Ba))=false:=by decide)(aO:(x==("__classdict__":Ba))=false:=by decide):ZE X (.Name x pos) (y3 i):=
 ⟨j6 (nW hN hv hd aO) λU H Q h_=>by
  refine f7 h_ λY d B H0 V0 Z e r q=>?_;obtain⟨v,h1,h2⟩:=r.sh i d (Pi e)
  exact⟨v,h1,q v H (J4.refl H) h2⟩⟩
def oW(i:Nat){x:Ba}(hN:X.N[i]?=some x:=by rfl)(hv:mS X.env.scope x:=by first|exact E7 rfl|exact D3 (E7 rfl)|exact D3 (D3 rfl))(hd:(x==("__debug__":Ba))=false:=by decide)(aO:(x==("__classdict__":Ba))=false:=by decide):ZQ X (.Name x pos) (kK i):=
 ⟨j6 (nW hN hv hd aO) λU H Q h_=>by
  refine f7 h_ λY ds B H0 V0 Z e r q=>?_;obtain⟨a,xs,h1,h2,hb,h3,h4,h5⟩:=r.ow i ds (tZ e)
  exact⟨.ref a,h1,q a xs H (J4.refl H) (.inl (i7.of h4)) h5⟩⟩
def FU(h:PE X e (tC v))(hr:∀H,e9 X.K H d v):SE X e (dC d):=j6 h λU H Q h_=>by refine f7 h_ λY d' B H0 V0 Z e r q=>?_;cases e;exact q v H (J4.refl H) (hr _)
def y4{i j pos}:ZE X (.Constant (.int i) j pos) (dC (.int i)):=
 ⟨FU Ņ λ_=>v7.mpr rfl⟩
def nD{b j pos}:ZE X (.Constant (.bool b) j pos) (dC (.bl b)):=
 ⟨FU v1R λ_=>Q3.mpr rfl⟩
def uV{j pos}:ZE X (.Constant .none j pos) (dC .non):=
 ⟨FU ņ λ_=>mJ.mpr rfl⟩
def oK{x j pos}:ZE X (.Constant (.str x) j pos) (dC (.str x)):=
 ⟨FU ŉ λ_=>mB.mpr rfl⟩
end
def b9(f:ED):EL:=λY=>match f Y with|some (.lst ds)=>some ds|some (.tup ds)=>some ds|_=>none
def lG(f:EL):ED:=λY=>(f Y).map D.lst
section
variable{X:Cx}{e:Expr}
def NA(h:SE X e f):SQ X e (b9 f):=
 j6 h λU H Q h_=>by
  refine f7 h_ λY ds B H0 V0 Z e r q=>?_;unfold b9 at e;split at e
  .rename_i es he;cases e
   exact⟨Y,_,B,H0,V0,Z,he,r,λv H' s hr=>by
    obtain⟨a,xs,rfl,h2,h3⟩:=K6.mp hr
    exact q a xs H' s (.inl (v4.seq h2)) h3⟩
  .rename_i es he;cases e
   exact⟨Y,_,B,H0,V0,Z,he,r,λv H' s hr=>by
    obtain⟨a,xs,rfl,h2,h3⟩:=j5.mp hr
    exact q a xs H' s (.inr h2) h3⟩
  .cases e
def p6(h:ZF X e f):ZE X e (lG f):=
 ⟨have h:=h.h;
 j6 h λU H Q h_=>by
  refine f7 h_ λY d B H0 V0 Z e r q=>?_;unfold lG at e;obtain⟨ds,he,rfl⟩:=B5.mp e;refine⟨Y,ds,B,H0,V0,Z,he,r,λa xs H' s hn ha hr=>q _ H' s (K6.mpr ⟨a,xs,rfl,i7.of ?_,hr.mono (qD λb hb=>A7 _ hb)⟩)⟩;rw[K8 (r.newer hn)]
  exact ha⟩
def nF(h:ZF X e f):ZQ X e f:=
 ⟨have h:=h.h;
 j6 h λU H Q ⟨Y,ds,B,H0,V0,Z,e,r,q⟩=>
  ⟨Y,ds,B,H0,V0,Z,e,r,λa xs H' s hn ha hr=>q a xs H' s (.inl (i7.of ha)) (hr.mono (qD λb hb=>A7 _ hb))⟩⟩
end
def lP(K:A5)(r:R2)(g:D->D->Option D):Prop:=∀x y d,g x y=some d->∀(Z:List As) (H:Hp) (u v:V) (Q:VK),(∀z∈Z,∃o,H z=some o)->e9 K (K0 Z H) x u->e9 K (K0 Z H) y v->(∀w' H',J4 H H'->e9 K (K0 Z H') d w'->Q w' H')->r u v H Q
def d2(g:D->D->Option D)(fa fb:ED):ED:=λY=>match fa Y with|some x=>(match fb Y with|some y=>g x y|none=>none)|none=>none
def u0(f:ED):EB:=λY=>match f Y with|some (.bl b)=>some b|_=>none
def Re{d:D}(e:d2 g fa fb Y=some d):∃x y,fa Y=some x/\fb Y=some y/\g x y=some d:=by
 unfold d2 at e;split at e
 .rename_i x hx;split at e
  .rename_i y hy;exact⟨x,y,hx,hy,e⟩
  .cases e
 .cases e
section
variable{X:Cx}{a b c:Expr}{fa fb fc:ED}{pos:Hi}
def LH{K:A5}{r:R2}{g:D->D->Option D}(hr:lP K r g):∀U H Q,tD K (d2 g fa fb) U H Q->yK r (tD K fa) (tD K fb) U H Q:=
 λU H Q h_=>by
  refine f7 h_ λY d B H0 V0 Z e r q=>?_;obtain⟨x,y,ex,ey,e⟩:=Re e
  exact⟨Y,x,B,H0,V0,Z,ex,r,λu H1 s1 r1=>⟨Y,y,B,H0,V0,Z,ey,r.mono s1,λv H2 s2 r2=>
   hr x y d e Z H2 u v Q ((r.mono s1).mono s2).zs (r1.mono (x9 s2)) r2 λw' H' s rr=>q w' H' (s1.trans (s2.trans s)) rr⟩⟩
def tY{K:A5}{f:ED}:∀U H Q,tT K (u0 f) U H Q->tD K f U H (λx H'=>∃k,x = .bl k/\Q k H'):=
 λU H Q h_=>by
  refine f7 h_ λY b B H0 V0 Z e r q=>?_;unfold u0 at e;split at e
  .rename_i b' hb;cases e;exact⟨Y,_,B,H0,V0,Z,hb,r,λv H' s rr=>⟨b,Q3.mp rr,q H' s⟩⟩
  .cases e
def Ax(ho:kO X (Hj op) r)(hr:lP X.K r g)(ha:SE X a fa)(hb:SE X b fb):SE X (.BinOp a op b pos) (d2 g fa fb):=j6 (TL ho ha hb) (LH hr)
def UJ(ho:kO X (De op) r)(hr:lP X.K r g)(ha:SE X a fa)(hb:SE X b fb)(hm:Dj op b=false):SE X (.Compare a [op] [b] pos) (d2 g fa fb):=j6 (RI ho ha hb hm) (LH hr)
def xJ(ho:kO X (De op) r)(hr:lP X.K r g)(ha:SE X a fa)(hb:SE X b fb)(hm:Dj op b=false):vZ X (.Compare a [op] [b] pos) (u0 (d2 g fa fb)):=qB (IL ho ha hb hm) λU H Q h=>LH hr _ _ _ (tY U H Q h)
def yQ(h:ZE X a f)(he:∀aK,isTrue a X.env aK=(do let v <-aK;Lf a.pos;Hs [v] (Oj v)):=by intro _;rfl):ZT X a (u0 f):=
 ⟨have h:=h.h;
 qB (Œ h he) λU H Q h=>tY U H Q h⟩
def qS(g g':D->D->Option D)(fa fb fc:ED):ED:=λY=>match fa Y with
 |some x=>(match fb Y with
  |some y=>(match g x y with
   |some (.bl true)=>(match fc Y with|some z=>g' y z|none=>none)
   |some (.bl false)=>some (.bl false)
   |_=>none)
  |none=>none)
 |none=>none
def X3{K:A5}{r r':R2}{g g':D->D->Option D}(hr:lP K r g)(hr':lP K r' g'):∀U H Q,tD K (qS g g' fa fb fc) U H Q->UO r r' (tD K fa) (tD K fb) (tD K fc) U H Q:=
 λU H Q h_=>by
  refine f7 h_ λY d B H0 V0 Z e r q=>?_;unfold qS at e;split at e
  .rename_i x ex;split at e
   .rename_i y ey;refine⟨Y,x,B,H0,V0,Z,ex,r,λu H1 s1 r1=>⟨Y,y,B,H0,V0,Z,ey,r.mono s1,λv H2 s2 r2=>?_⟩⟩;have R2:=(r.mono s1).mono s2;split at e
    .rename_i eg;split at e
     .rename_i z ez;refine hr x y _ eg Z H2 u v _ R2.zs (r1.mono (x9 s2)) r2 λk H3 s3 r3=>⟨true,Q3.mp r3,sT ?_⟩
      exact⟨Y,z,B,H0,V0,Z,ez,R2.mono s3,λw' H4 s4 r4=>hr' y z d e Z H4 v w' Q ((R2.mono s3).mono s4).zs (r2.mono (x9 (s3.trans s4))) r4 λk' H5 s5 r5=>
       q k' H5 (s1.trans (s2.trans (s3.trans (s4.trans s5)))) r5⟩
     .cases e
    .rename_i eg;cases e;exact hr x y _ eg Z H2 u v _ R2.zs (r1.mono (x9 s2)) r2 λk H3 s3 r3=>⟨false,Q3.mp r3,uI (q _ H3 (s1.trans (s2.trans s3)) (Q3.mpr rfl))⟩
    .cases e
   .cases e
  .cases e
def PZ(ho:kO X (De op) r)(hr:lP X.K r g)(br:kO X (De op') r')(hr':lP X.K r' g')(ha:ZE X a fa)(hb:ZE X b fb)(hc:ZE X c fc)(hm:lastMarks [op,op'] [b,c]=false:=by with_unfolding_all rfl):ZT X (.Compare a [op,op'] [b,c] pos) (u0 (qS g g' fa fb fc)):=
 ⟨have ha:=ha.h;
 have hb:=hb.h;
 have hc:=hc.h;
 qB (ϵ ho br ha hb hc hm) λU H Q h=>X3 hr hr' _ _ _ (tY U H Q h)⟩
def yC(fa fb:ED):ED:=λY=>match fa Y with|some (.bl true)=>fb Y|some (.bl false)=>some (.bl false)|_=>none
def qE(fa fb:EB):EB:=λY=>match fa Y with|some true=>fb Y|some false=>some false|none=>none
def qL(fa fb:EB):EB:=λY=>match fa Y with|some true=>some true|some false=>fb Y|none=>none
def rJ(fa:EB):EB:=λY=>(fa Y).map (!·)
variable{rest:List Expr}
def R8{op}(h:ZE X a f):ZE X (.BoolOp op [a] pos) f:=
 ⟨have h:=h.h;
 Ň h⟩
def R5(ha:ZE X a fa)(hb:ZE X (.BoolOp .And (b::rest) pos) fb):ZE X (.BoolOp .And (a::b::rest) pos) (yC fa fb):=
 ⟨have ha:=ha.h;
 have hb:=hb.h;
 j6 (Ń ha hb) λU H Q h_=>by
  refine f7 h_ λY d B H0 V0 Z e r q=>?_;unfold yC at e;split at e
  .rename_i ea;exact⟨Y,_,B,H0,V0,Z,ea,r,λu H1 s1 r1=>⟨true,Q3.mp r1,sT ⟨Y,d,B,H0,V0,Z,e,r.mono s1,λv H' s rr=>q v H' (s1.trans s) rr⟩⟩⟩
  .rename_i ea;cases e;exact⟨Y,_,B,H0,V0,Z,ea,r,λu H1 s1 r1=>⟨false,Q3.mp r1,uI (q _ H1 s1 (Q3.mpr rfl))⟩⟩
  .cases e⟩
variable{ga gb:EB}
def Tx(ha:ZT X a ga):ZW X (.BoolOp .And [a] pos) ga:=
 ⟨have ha:=ha.h;
 Õ ha⟩
def yR(ha:ZT X a ga):ZW X (.BoolOp .Or [a] pos) ga:=
 ⟨have ha:=ha.h;
 Ŗ ha⟩
def Sd(ha:ZT X a ga)(hb:ZW X (.BoolOp .And (b::rest) pos) gb):ZW X (.BoolOp .And (a::b::rest) pos) (qE ga gb):=
 ⟨have ha:=ha.h;
 have hb:=hb.h;
 RQ (ŕ ha hb) λU H Q h_=>by
  refine f7 h_ λY d B H0 V0 Z e r q=>?_;unfold qE at e;split at e
  .rename_i ea;exact⟨Y,_,B,H0,V0,Z,ea,r,λH1 s1=>sT ⟨Y,d,B,H0,V0,Z,e,r.mono s1,λH' s=>q H' (s1.trans s)⟩⟩
  .rename_i ea;cases e;exact⟨Y,_,B,H0,V0,Z,ea,r,λH1 s1=>uI (q H1 s1)⟩
  .cases e⟩
def AB(ha:ZT X a ga)(hb:ZW X (.BoolOp .Or (b::rest) pos) gb):ZW X (.BoolOp .Or (a::b::rest) pos) (qL ga gb):=
 ⟨have ha:=ha.h;
 have hb:=hb.h;
 RQ (v1N ha hb) λU H Q h_=>by
  refine f7 h_ λY d B H0 V0 Z e r q=>?_;unfold qL at e;split at e
  .rename_i ea;cases e;exact⟨Y,_,B,H0,V0,Z,ea,r,λH1 s1=>sT (q H1 s1)⟩
  .rename_i ea;exact⟨Y,_,B,H0,V0,Z,ea,r,λH1 s1=>uI ⟨Y,d,B,H0,V0,Z,e,r.mono s1,λH' s=>q H' (s1.trans s)⟩⟩
  .cases e⟩
def vK(h:ZW X a ga):ZT X a ga:=
 ⟨have h:=h.h;
 PW.pt h⟩
def JA(ha:ZT X a ga):ZT X (.UnaryOp .Not a pos) (rJ ga):=
 ⟨have ha:=ha.h;
 qB (ő ha) λU H Q h_=>by
  refine f7 h_ λY d B H0 V0 Z e r q=>?_;unfold rJ at e;obtain⟨b',eb,rfl⟩:=B5.mp e
  exact⟨Y,b',B,H0,V0,Z,eb,r,λH1 s1=>q H1 s1⟩⟩
def yM(fc:EB)(fa fb:ED):ED:=λY=>match fc Y with|some true=>fa Y|some false=>fb Y|none=>none
def UV(hc:ZT X c ga)(ha:ZE X a fa)(hb:ZE X b fb):ZE X (.IfExp c a b pos) (yM ga fa fb):=
 ⟨have hc:=hc.h;
 have ha:=ha.h;
 have hb:=hb.h;
 j6 (ϯ hc ha hb) λU H Q h_=>by
  refine f7 h_ λY d B H0 V0 Z e r q=>?_;unfold yM at e;split at e
  .rename_i ea;exact⟨Y,_,B,H0,V0,Z,ea,r,λH1 s1=>sT ⟨Y,d,B,H0,V0,Z,e,r.mono s1,λv H' s rr=>q v H' (s1.trans s) rr⟩⟩
  .rename_i ea;exact⟨Y,_,B,H0,V0,Z,ea,r,λH1 s1=>uI ⟨Y,d,B,H0,V0,Z,e,r.mono s1,λv H' s rr=>q v H' (s1.trans s) rr⟩⟩
  .cases e⟩
end
def J0:Expr->Bool
 | .Starred _ _=>false
 |_=>true
def w9{es:List Expr}(h:J0 e=true):Bt (e::es) env=(false,Ec e env)::Bt es env:=by cases e<;>first|(cases h;done)|(rw[Bt];intro _ _ z;cases z)|rw[Bt]
theorem K7:∀{es:List Expr},es.all J0=true->(F0 pos (Bt es env)).any (·.1)=false
 | [],_=>rfl
 |e::es,h=>by rw[List.all_cons,B8]at h;rw[w9 h.1];have ih:=@K7 pos env es h.2;unfold F0 at ih ⊢;rw[Ai,Fc,ih];rfl
def Q7:EL:=λ_=>some []
def z9(f:ED)(g:EL):EL:=λY=>match f Y with|some d=>(match g Y with|some ds=>some (d::ds)|none=>none)|none=>none
section
variable{X:Cx}{e:Expr}{es:List Expr}{f:ED}{g:EL}{pos:Hi}
def xI:SA X [] Q7:=RG Y5 λU H Q h_=>by refine f7 h_ λY ds B H0 V0 Z e r q=>?_;cases e;exact q [] H (J4.refl H) J3.nil
def qW(ha:SE X e f)(hr:SA X es g)(hs:J0 e=true:=by rfl): SA X (e::es) (z9 f g):=
 RG (J7 ha hr (w9 hs)) λU H Q h_=>by
  refine f7 h_ λY ds B H0 V0 Z e r q=>?_;unfold z9 at e;split at e
  .rename_i d ed;split at e
   .rename_i ds' aF;cases e;exact⟨Y,d,B,H0,V0,Z,ed,r,λv H1 s1 r1=>⟨Y,ds',B,H0,V0,Z,aF,r.mono s1,λvs H2 s2 r2=>q (v::vs) H2 (s1.trans s2) (J3.cons (r1.mono (x9 s2)) r2)⟩⟩
   .cases e
  .cases e
def jP(g:EL):ED:=λY=>match g Y with|some ds=>if ds.length<=f8 then some (.tup ds) else none|none=>none
def m7(g:EL):EL:=λY=>match g Y with|some ds=>if ds.length<=f8 then some ds else none|none=>none
def K4{x1}(h:ZA X es g):ZE X (.Tuple es x1 pos) (jP g):=
 ⟨have h:=h.h;
 j6 (Ŋ h) λU H Q h_=>by
  refine f7 h_ λY d B H0 V0 Z e r q=>?_;unfold jP at e;split at e
  .rename_i ds aF;split at e
   .rename_i hl;cases e;refine⟨Y,ds,B,H0,V0,Z,aF,r,λxs H1 s1 r1=>⟨vL (by rw[<-r1.length];exact hl),λp hp=>?_⟩⟩
    have sn:=u9 (o:=HO.tup xs) hp;refine q _ _ (s1.trans sn) (j5.mpr ⟨p,xs,rfl,i8.of ?_,r1.mono (x9 sn)⟩);rw[K8 ((r.mono s1).newer hp)];exact w6
   .cases e
  .cases e⟩
def pR(h:ZA X es g):ZF X (.List es pos) (m7 g):=
 ⟨have h:=h.h;
 j6 (Uw h) λU H Q h_=>by
  refine f7 h_ λY d B H0 V0 Z e r q=>?_;unfold m7 at e;split at e
  .rename_i ds aF;split at e
   .rename_i hl;cases e;refine⟨Y,_,B,H0,V0,Z,aF,r,λxs H1 s1 r1=>⟨vL (by rw[<-r1.length];exact hl),λp hp=>?_⟩⟩
    exact q p xs _ (s1.trans (u9 hp)) (s1.free hp) w6 (r1.mono (rC hp (u9 hp)))
   .cases e
  .cases e⟩
def sV(K:A5)(F:LD):Sp:=λvs H Q _=>∃Z ds d,(TB K H/\∀z∈Z,∃o,H z=some o)/\J3 K (K0 Z H) ds vs/\F ds=some d/\∀v H',J4 H H'->e9 K (K0 Z H') d v->Q v H'
def x8(F:LD)(g:EL):ED:=λY=>match g Y with|some ds=>F ds|none=>none
def è(G:kD X.prog X.w X.K X.mg X.base mG k f' fd ps (sV X.K F))(hr:d8 k X.A)(hm:X.mg x=some (.ref f'))(hk:Fh X.K (.ref f')=true)(hb:uB X.K fd ps [])(ha:SA X (e::es) g)(hg:Gl X x:=by rfl)(bG:(x==("__debug__":Ba))=false:=by decide)(he:J0 e=true:=by rfl)(au:es.all J0=true:=by rfl):
  SE X (.Call (.Name x p) (e::es) [] pos) (x8 F g):=
 j6 (RH G hr hg hm hk hb .nil TJ ha bG (w9 he) (K7 au)) λU H Q h_=>by
  refine f7 h_ λY d B H0 V0 Z e r q=>?_;unfold x8 at e;split at e
  .rename_i ds aF;refine⟨Y,ds,B,H0,V0,Z,aF,r,λvs H1 s1 r1=>?_⟩;show sV X.K F (vs++[]) H1 Q E0;rw[Cr];exact⟨Z,ds,d,⟨(r.mono s1).tb,(r.mono s1).zs⟩,r1,e,λv H' s rr=>q v H' (s1.trans s) rr⟩
  .cases e
end
def J6(g k:EO):EO:=λY=>match g Y with|some (.nx Y')=>k Y'|o=>o
def jZ:EO:=λY=>some (.nx Y)
def i9(f:ED):EO:=λY=>match f Y with|some d=>some (.rt d)|none=>none
def jV(c:EB)(g k:EO):EO:=λY=>match c Y with|some true=>g Y|some false=>k Y|none=>none
def i4(i:Nat)(f:ED):EO:=λY=>match f Y with|some d=>some (.nx (Y.set i (some (.sh d))))|none=>none
def nL(i:Nat)(f:EL):EO:=λY=>match f Y with|some d=>some (.nx (Y.set i (some (.ow d))))|none=>none
def yD(f:ED)(h:D->J5->Option J5):EO:=λY=>match f Y with|some d=>(match h d Y with|some Y'=>some (.nx Y')|none=>none)|none=>none
def u4(i:Nat):D->J5->Option J5:=λd Y=>some (Y.set i (some (.sh d)))
def nJ:List D->J5->Option J5:=λds Y=>match ds with|[]=>some Y|_=>none
def Z9(h:D->J5->Option J5)(k:List D->J5->Option J5):List D->J5->Option J5:=λds Y=>match ds with|d::r=>(match h d Y with|some Y'=>k r Y'|none=>none)|[]=>none
def nK(n:Nat)(k:List D->J5->Option J5):D->J5->Option J5:=λd Y=>match d with|.tup ds=>if ds.length=n then k ds Y else none|_=>none
def qG(i:Nat)(f:J5->Option (List d4×List D)):EO:=λY=>match f Y with|some d=>some (.nx (Y.set i (some (.od d.1 d.2))))|none=>none
def frz(i:Nat)(Y:J5):J5:=match Y[i]? with|some (some c)=>(match c.oc with|some o=>Y.set i (some (.sh o.dat))|none=>Y)|_=>Y
def Æ{c:Cell}{o:OC}(h:c.oc=some o):c=o.cell:=by cases c<;>cases h<;>rfl
def tFD(K:A5)(f:J5->Option (List d4×List D)):TE:=λU H Q=>∃Y ds B H0 V0 Z,f Y=some ds/\SR K B H0 V0 H Z U Y/\∀a kvs H',J4 H H'->H a=none->H' a=some (.dK kvs)->kvs.map (·.1)=ds.1->J3 K (K0 (a::Z) H') ds.2 (kvs.map (·.2))->Q (.ref a) H'
abbrev SFD(X:Cx)(e:Expr)(f:J5->Option (List d4×List D)):Prop:=PE X e (tFD X.K f)
structure BJ(X:Cx)(e:Expr)(f:J5->Option (List d4×List D)):Prop where
 h:SFD X e f
section
variable{X:Cx}{st:Dl}{rest:List Dl}{e c:Expr}{pos:Hi}{f:ED}{g k:EO}
def Q4:ZB X [] jZ:=
 ⟨yY Ô λE U H h_=>by
 refine f7 h_ λY o B H0 V0 Z e r q=>?_;cases e
 exact q U H Z r⟩
def z7(h1:ZS X st g)(h2:ZB X rest k):ZB X (st::rest) (J6 g k):=
 ⟨have h1:=h1.h;
 have h2:=h2.h;
 yY (yX h1 h2) λE U H h_=>by
  refine f7 h_ λY o B H0 V0 Z e r q=>?_;unfold J6 at e;split at e
  .rename_i Y' eg;exact⟨Y,_,B,H0,V0,Z,eg,r,λU' H' Z' r'=>⟨Y',o,B,H0,V0,Z',e,r',q⟩⟩
  .rename_i am;refine⟨Y,o,B,H0,V0,Z,e,r,?_⟩
   cases o with
   |nx Y'=>exact u3 e (am Y')
   |bk Y'=>exact q
   |ct Y'=>exact q
   |rt d=>exact q⟩
def y9(h1:ZS X st g):ZB X [st] g:=
 ⟨have h1:=h1.h;
 EJ h1⟩
def v6(h:ZE X e f):ZS X (.Return (some e) pos) (i9 f):=
 ⟨have h:=h.h;
 mY (FA h) λE U H h_=>by
 refine f7 h_ λY o B H0 V0 Z e r q=>?_;unfold i9 at e;split at e
 .rename_i d ed;cases e;exact⟨Y,d,B,H0,V0,Z,ed,r,λv H' s rr=>q v H' (r.same.trans s) (rr.mono (qD r.sub))⟩
 .cases e⟩
def Z7(hc:ZT X c fc)(ha:ZB X a g)(hb:ZB X b k):ZS X (.If c a b pos) (jV fc g k):=
 ⟨have hc:=hc.h;
 have ha:=ha.h;
 have hb:=hb.h;
 mY (v1P hc ha hb) λE U H h_=>by
  refine f7 h_ λY o B H0 V0 Z e r q=>?_;unfold jV at e;split at e
  .rename_i ec;exact⟨Y,true,B,H0,V0,Z,ec,r,λH' s=>sT ⟨Y,o,B,H0,V0,Z,e,r.mono s,q⟩⟩
  .rename_i ec;exact⟨Y,false,B,H0,V0,Z,ec,r,λH' s=>uI ⟨Y,o,B,H0,V0,Z,e,r.mono s,q⟩⟩
  .cases e⟩
def g9{i:Nat}{x:Ba}(he:ZE X e f)(hN:X.N.Nodup)(hi:X.N[i]?=some x:=by rfl)(hx:m9 X.env.scope x:=by first|exact E7 rfl|exact D3 rfl)(hs:Er e (some (.Name x aS)) pos.line X.env=Ci false:=by rfl)(hf:X.fn x=true\/X.env.scope.names.lookup x=some .local:=by first|exact .inl rfl|exact .inr rfl):ZS X (.Assign [.Name x aS] e pos) (i4 i f):=
 ⟨have he:=he.h;
 mY (LA hN hi hx he hs hf) λE U H h_=>by
  refine f7 h_ λY o B H0 V0 Z e r q=>?_;unfold i4 at e;split at e
  .rename_i d ed;cases e;exact⟨Y,d,B,H0,V0,Z,ed,r,λv H' s rr=>q _ H' Z ((r.mono s).set rr)⟩
  .cases e⟩
def qC{i:Nat}{x:Ba}(he:ZF X e fl)(hN:X.N.Nodup)(hi:X.N[i]?=some x:=by rfl)(hx:m9 X.env.scope x:=by first|exact E7 rfl|exact D3 rfl)(hs:Er e (some (.Name x aS)) pos.line X.env=Ci false:=by rfl)(hf:X.fn x=true\/X.env.scope.names.lookup x=some .local:=by first|exact .inl rfl|exact .inr rfl):ZS X (.Assign [.Name x aS] e pos) (nL i fl):=
 ⟨have he:=he.h;
 mY (LA hN hi hx he hs hf) λE U H h_=>by
  refine f7 h_ λY o B H0 V0 Z e r q=>?_;unfold nL at e;split at e
  .rename_i ds ed;cases e;refine⟨Y,ds,B,H0,V0,Z,ed,r,λa xs H' s hn ha rr=>q _ H' (a::Z) ?_⟩;refine(r.more hn s ha).setO (c:=.l ds) A6 (λz=>r.newer hn (r.sub _ z)) ?_ ha ⟨_,rfl,rr⟩ λj es hj bz=>?_
   .exact r.same.free hn
   .obtain⟨b,ys,t1,t2,_⟩:=r.own j es hj;rw[bz]at t1;cases t1;exact r.newer hn t2
  .cases e⟩
def sD{i:Nat}{x:Ba}(he:BJ X e fl)(hN:X.N.Nodup)(hi:X.N[i]?=some x:=by rfl)(hx:m9 X.env.scope x:=by first|exact E7 rfl|exact D3 rfl)(hs:Er e (some (.Name x aS)) pos.line X.env=Ci false:=by rfl)(hf:X.fn x=true\/X.env.scope.names.lookup x=some .local:=by first|exact .inl rfl|exact .inr rfl):ZS X (.Assign [.Name x aS] e pos) (qG i fl):=
 ⟨have he:=he.h;
 mY (LA hN hi hx he hs hf) λE U H h_=>by
  refine f7 h_ λY o B H0 V0 Z e r q=>?_;unfold qG at e;split at e
  .rename_i ds ed;cases e;refine⟨Y,ds,B,H0,V0,Z,ed,r,λa xs H' s hn ha rk rr=>q _ H' (a::Z) ?_⟩;refine(r.more hn s ha).setO (c:=.d ds.1 ds.2) A6 (λz=>r.newer hn (r.sub _ z)) ?_ ha ⟨_,rfl,rk,rr⟩ λj es hj bz=>?_
   .exact r.same.free hn
   .obtain⟨b,ys,t1,t2,_⟩:=r.own j es hj;rw[bz]at t1;cases t1;exact r.newer hn t2
  .cases e⟩
def w8{i:Nat}{x:Ba}(hN:X.N.Nodup)(hi:X.N[i]?=some x:=by rfl)(hx:m9 X.env.scope x:=by first|exact E7 rfl|exact D3 rfl)(hf:X.fn x=true\/X.env.scope.names.lookup x=some .local:=by first|exact .inl rfl|exact .inr rfl):ZG X (.Name x pos) (u4 i):=
 ⟨RK (EI hN hi hx hf) λv U H Q h_=>by
  obtain⟨Y,d,Y',B,H0,V0,Z,e,r,rr,q⟩:=h_;cases e
  exact q _ (r.set rr)⟩
def vA:GF X [] nJ:=
 ⟨S8 RL λv U H Q h_=>by
 obtain⟨Y,ds,Y',B,H0,V0,Z,e,r,rr,q⟩:=h_;unfold nJ at e;split at e
 .cases e;exact⟨J9.mp rr,q U r⟩
 .cases e⟩
def oO(h1:ZG X e h)(h2:GF X es kk)(hs:(E6 (e::es) X.env).map (·.2)=Lw e X.env::(E6 es X.env).map (·.2):=by rfl):GF X (e::es) (Z9 h kk):=
 ⟨have h1:=h1.h;
 have h2:=h2.h;
 S8 (JH h1 h2 hs) λv U H Q h_=>by
  obtain⟨Y,ds,Y',B,H0,V0,Z,e,r,rr,q⟩:=h_;unfold Z9 at e;split at e
  .rename_i d rs;split at e
   .rename_i Y1 e1;obtain⟨v',hJ,rfl,t1,t2⟩:=j7.mp rr;exact⟨v',hJ,rfl,Y,d,Y1,B,H0,V0,Z,e1,r,t1,λU' r'=>⟨Y1,rs,Y',B,H0,V0,Z,e,r',t2,q⟩⟩
   .cases e
  .cases e⟩
def uX{n:Nat}(hc:X.calm=true)(h:GF X es kk)(hn:(E6 es X.env).length=n:=by rfl)(cn:(E6 es X.env).findIdx? (·.1)=none:=by rfl):ZG X (.Tuple es kt pos) (nK n kk):=
 ⟨have h:=h.h;
 RK (Ux hc h hn cn) λv U H Q h_=>by
  obtain⟨Y,d,Y',B,H0,V0,Z,e,r,rr,q⟩:=h_;unfold nK at e;split at e
  .rename_i ds;split at e
   .rename_i hl;obtain⟨a,xs,rfl,t1,t2⟩:=j5.mp rr;exact⟨a,xs,rfl,j9 v4 t1,t2.length.symm.trans hl,Y,ds,Y',B,H0,V0,Z,e,r,t2,q⟩
   .cases e
  .cases e⟩
def ú(he:ZE X e f)(hg:ZG X tg h)(hs:swapsWithSole [tg] e pos.line X.env=Ci false:=by rfl)(hw:swappedStores [tg] e X.env=Ci none:=by rfl)(h1:(E6 [tg] X.env).map (·.2)=[Lw tg X.env]:=by rfl):ZS X (.Assign [tg] e pos) (yD f h):=
 ⟨have he:=he.h;
 have hg:=hg.h;
 mY (ŏ he hg hs hw h1) λE U H h_=>by
  refine f7 h_ λY o B H0 V0 Z e r q=>?_;unfold yD at e;split at e
  .rename_i d ed;split at e
   .rename_i Y' e1;cases e;exact⟨Y,d,B,H0,V0,Z,ed,r,λv H' s rr=>⟨Y,d,Y',B,H0,V0,Z,e1,r.mono s,rr,λU' r'=>q U' H' Z r'⟩⟩
   .cases e
  .cases e⟩
def SR.frz{K:A5}{B Z:List As}{H0 V0 H:Hp}{U:St}{Y:J5}(i:Nat)(r:SR K B H0 V0 H Z U Y):∃Z',SR K B H0 V0 H Z' U (frz i Y)/\(∀b∈Z',b∈Z)/\(∀b∈Z,b∉Z'->∃(c:OC) (o:HO),Y[i]?=some (some c.cell)/\H b=some o/\pT K (K0 Z H) c o):=by
 unfold L3.frz;split
 .rename_i cc hi;split
  .rename_i c hc;have hcc:=Æ hc;subst hcc;obtain⟨a,o,h1,h2,hnb,h3,h4,h5⟩:=r.own i c hi;have bU:∀b∈Z.filter (λb=>decide (b≠a)),b∈Z:=λb hb=>(B7.mp hb).1;have hm:J4 (K0 Z H) (K0 (Z.filter (λb=>decide (b≠a))) H):=qD bU;have hl:i<Y.length:=(B0.mp hi).1;refine⟨Z.filter (λb=>decide (b≠a)),⟨r.same,r.tb,r.vis.trans hm,λb hb=>?_,λz hz=>r.zs z (bU z hz),λj d q=>?_,λj es q=>?_,λj k fs gs b q1 q2 s1 s2=>?_,by rw[D1];exact r.len⟩,bU,λb hb nb=>?_⟩
   .exact B7.mpr ⟨r.sub b hb,Y1 λz=>hnb (z▸hb)⟩
   .rcases mK q with⟨rfl,z,_⟩|⟨n,q⟩
    .cases z;refine⟨_,h1,(h5.mono hm).rep ?_⟩;rw[K8 (λz=>u3 rfl (lZ (B7.mp z).2))];exact h4
    .obtain⟨v,t1,t2⟩:=r.sh j d q;exact⟨v,t1,t2.mono hm⟩
   .rcases mK q with⟨_,z,_⟩|⟨n,q⟩
    .exact(oY z).elim
    .obtain⟨b,ys,t1,t2,tb,t3,t4,t5⟩:=r.own j es q;refine⟨b,ys,t1,B7.mpr ⟨t2,Y1 λz=>?_⟩,tb,t3,t4,t5.mono hm⟩;subst z;exact n (r.inj i j _ _ b hi q h1 t1)
   .rcases mK q1 with⟨_,z,_⟩|⟨n1,q1⟩
    .exact(oY z).elim
    rcases mK q2 with⟨_,z,_⟩|⟨n2,q2⟩
    .exact(oY z).elim
    exact r.inj j k fs gs b q1 q2 s1 s2
   .have eb:b=a:=Dq λz=>nb (B7.mpr ⟨hb,Y1 z⟩);subst eb;exact⟨c,o,hi,h4,h5⟩
  .exact⟨Z,r,λ_ h=>h,λb hb nb=>u3 hb nb⟩
 .exact⟨Z,r,λ_ h=>h,λb hb nb=>u3 hb nb⟩
def tU(i:Nat)(h:ZS X st g):ZS X st (λY=>g (frz i Y)):=
 ⟨have h:=h.h;
 mY h λE U H h_=>by
 refine f7 h_ λY o B H0 V0 Z e r q=>?_;obtain⟨Z',r',_⟩:=r.frz i
 exact⟨frz i Y,o,B,H0,V0,Z',e,r',q⟩⟩
def kR(h:D->J5->Option J5)(g:EO):List D->EO
 | [],Y=>some (.nx Y)
 |d::ds,Y=>match h d Y with
  |none=>none
  |some Y1=>match g Y1 with
   |some (.nx Y2)=>kR h g ds Y2
   |some (.ct Y2)=>kR h g ds Y2
   |some (.bk Y2)=>some (.nx Y2)
   |some (.rt v)=>some (.rt v)
   |none=>none
def lB(fi:EL)(h:D->J5->Option J5)(g:EO):EO:=λY=>match fi Y with|some ds=>kR h g ds Y|none=>none
def mC(hp:N4 (Aw X.prog X.w) X.A X.env X.xe)(hc:X.calm=true)(hi:ZI X tg ag fi)(hg:ZG X tg h)(hb:ZB X body g)(hs:∀x,Cu ag X.env x=Ci x:=by intro _;rfl):ZS X (.For tg ag body [] pos) (lB fi h g):=
 ⟨have hi:=hi.h;
 have hg:=hg.h;
 have hb:=hb.h;
 mY (Uy hp hc hi hg hb hs) λE U H h_=>by
  refine f7 h_ λY o B H0 V0 Z e r q=>?_;unfold lB at e;split at e
  .rename_i ds aF;refine⟨Y,ds,B,H0,V0,Z,aF,r,λJ H1 s1 wk=>?_⟩;have R1:=r.mono s1;have RV:SR X.K B H0 (K0 Z H1) H1 Z U Y:=R1.vis' (λ_ _ h=>h);have iW:∀{U' H' Z' Y'},SR X.K B H0 (K0 Z H1) H' Z' U' Y'->SR X.K B H0 V0 H' Z' U' Y':=λr'=>r'.vis' (R1.vis.trans r'.vis);refine⟨λi m U' H'=>m=ds.length-i/\i<=ds.length/\∃Y' Z',SR X.K B H0 (K0 Z H1) H' Z' U' Y'/\kR h g (ds.drop i) Y'=some o,⟨_,rfl,Bh _,Y,Z,RV,e⟩,?_⟩
   rintro i m U' H' ⟨rfl,bL,Y',Z',r',e'⟩;have vis:J4 (K0 Z H1) H':=r'.vis.trans v4;by_cases ak:i<ds.length
   .refine .inr ⟨wk.go H' vis i ak,λU2 H2=>∃Y2 Z2,SR X.K B H0 (K0 Z H1) H2 Z2 U2 Y2/\kR h g (ds.drop (i+1)) Y2=some o,λU2 H2 ⟨Y2,Z2,r2,e2⟩=>⟨ds.length-(i+1),⋯,rfl,ak,Y2,Z2,r2,e2⟩,λx H3 hy=>?_⟩;obtain⟨sH,hx⟩:=wk.yld H' vis i x H3 hy;have hd:=hx ds[i] (A4 ak) Z' r'.zs r'.vis;rw[Fs ak]at e';unfold kR at e';split at e'
    .cases e'
    .rename_i Y1 e1;refine⟨Y',ds[i],Y1,B,H0,K0 Z H1,Z',e1,r'.mono sH,hd,λU4 r4=>?_⟩;split at e'
     .rename_i Y2 e2;exact⟨Y1,_,B,H0,K0 Z H1,Z',e2,r4,λU5 H5 Z5 r5=>⟨Y2,Z5,r5,e'⟩⟩
     .rename_i Y2 e2;exact⟨Y1,_,B,H0,K0 Z H1,Z',e2,r4,λU5 H5 Z5 r5=>⟨Y2,Z5,r5,e'⟩⟩
     .rename_i Y2 e2;cases e';exact⟨Y1,_,B,H0,K0 Z H1,Z',e2,r4,λU5 H5 Z5 r5=>q U5 H5 Z5 (iW r5)⟩
     .rename_i v e2;cases e';exact⟨Y1,_,B,H0,K0 Z H1,Z',e2,r4,q⟩
     .cases e'
   .have ei:i=ds.length:=by omega
    subst ei;rw[Mb]at e';unfold kR at e';cases e';exact .inl ⟨wk.stop H' vis,q U' H' Z' (iW r')⟩
  .cases e⟩
def YY{K:A5}{W0:Hp}{a:As}{xs:List V}{ds:List D}(h1:i7 K W0 a xs)(h2:J3 K W0 ds xs):qP K W0 (NO K a) ds where
 go:=λH' s i hi=>by obtain⟨v,hv,_⟩:=h2.get (A4 hi);exact⟨xs,v,s.seq h1,hv⟩
 yld:=λH' s i x H3 hy=>by
  obtain⟨rfl,hx⟩:=hy;refine⟨J4.refl _,λd hd Z hz hs=>?_⟩;obtain⟨v,hv,rv⟩:=h2.get hd
  have:=hx xs (s.seq h1)
  rw[hv]at this;cases this;exact rv.mono hs
 stop:=λH' s=>⟨xs,s.seq h1,by rw[h2.length];exact Ad _⟩
def Ν{K:A5}{W0:Hp}{a:As}{xs:List V}{ds:List D}(h1:i8 K W0 a xs)(h2:J3 K W0 ds xs):qP K W0 (NN K a) ds where
 go:=λH' s i hi=>by obtain⟨v,hv,_⟩:=h2.get (A4 hi);exact⟨xs,v,j9 s h1,hv⟩
 yld:=λH' s i x H3 hy=>by
  obtain⟨rfl,hx⟩:=hy;refine⟨J4.refl _,λd hd Z hz hs=>?_⟩;obtain⟨v,hv,rv⟩:=h2.get hd
  have:=hx xs (j9 s h1)
  rw[hv]at this;cases this;exact rv.mono hs
 stop:=λH' s=>⟨xs,j9 s h1,by rw[h2.length];exact Ad _⟩
def Q6(lo:Int)(n:Nat):List D:=(Aa n).map λ(k:Nat)=>D.int (lo+(k:Int))
def Tp{K:A5}{W0:Hp}(lo:Int)(n:Nat):qP K W0 (BN lo n) (Q6 lo n) where
 go:=λH' s i hi=>by show i<n;simpa [Q6] using hi
 yld:=λH' s i x H3 hy=>by
  obtain⟨rfl,rfl⟩:=hy;refine⟨J4.refl _,λd hd Z hz hs=>?_⟩;unfold Q6 at hd;rw[Ao]at hd
  cases hr:(Aa n)[i]? with
  |none=>rw[hr]at hd;cases hd
  |some k=>
   rw[hr]at hd
   have ek:k=i:=by
    have:=B0.mp hr
    obtain⟨h1,h2⟩:=this;simpa using h2.symm
   subst ek;cases hd;exact v7.mpr rfl
 stop:=λH' s=>by show n<=(Q6 lo n).length;simp[Q6]
variable{tg:Expr}
def KM(f:ED):EL:=λY=>match f Y with|some (.lst ds)=>some ds|_=>none
def KN(f:ED):EL:=λY=>match f Y with|some (.tup ds)=>some ds|_=>none
def ť(h:SE X e f):SI X tg e (KM f):=tP (RM h) λU H R h_=>by
 refine f7 h_ λY ds B H0 V0 Z e r q=>?_;unfold KM at e;split at e
 .rename_i es he;cases e;refine⟨Y,_,B,H0,V0,Z,he,r,λv H' s rr=>?_⟩;obtain⟨a,xs,rfl,h1,h2⟩:=K6.mp rr;exact⟨a,rfl,⟨xs,v4.seq h1⟩,q _ H' s (YY h1 h2)⟩
 .cases e
def Ŧ(h:SE X e f):SI X tg e (KN f):=tP (Ŏ h) λU H R h_=>by
 refine f7 h_ λY ds B H0 V0 Z e r q=>?_;unfold KN at e;split at e
 .rename_i es he;cases e;refine⟨Y,_,B,H0,V0,Z,he,r,λv H' s rr=>?_⟩;obtain⟨a,xs,rfl,h1,h2⟩:=j5.mp rr;exact⟨a,rfl,⟨xs,j9 v4 h1⟩,q _ H' s (Ν h1 h2)⟩
 .cases e
def nG(i:Int):Bool:=decide (-(2 ^ 62)<=i)&&decide (i<2 ^ 62)
def xH(h:nG i=true) : -(2 ^ 62)<=i/\i<2 ^ 62:=by unfold nG at h;rw[B8]at h;exact⟨lZ h.1,lZ h.2⟩
def kF(f:ED):EL:=λY=>match f Y with|some (.int j)=>if nG j=true then some (Q6 0 j.toNat) else none|_=>none
def sM(f f':ED):EL:=λY=>match f Y with
 |some (.int i)=>(match f' Y with|some (.int j)=>if nG i=true/\nG j=true then some (Q6 i (j-i).toNat) else none|_=>none)
 |_=>none
def Y2{p:Hi}(hm:X.mg "range" = none)(h:ZE X e f)(hg:Gl X "range":=by rfl)(hs:Bt [e] X.env=[(false,Ec e X.env)]:=by rfl):ZI X tg (.Call (.Name "range" p) [e] [] pos) (kF f):=
 ⟨have h:=h.h;
 tP (YB hg hm (J7 h Y5 (by rw[hs];rfl)) hs) λU H R h_=>by
  refine f7 h_ λY ds B H0 V0 Z e r q=>?_;unfold kF at e;split at e
  .rename_i j he;split at e
   .rename_i hok;cases e;refine⟨Y,_,B,H0,V0,Z,he,r,λv H' s rr=>?_⟩
    obtain rfl:=v7.mp rr
    exact⟨j,rfl,(xH hok).1,(xH hok).2,q _ H' s (Tp 0 j.toNat)⟩
   .cases e
  .cases e⟩
def Tu{p:Hi}(hm:X.mg "range" = none)(h:ZE X e f)(h':ZE X e' f')(hg:Gl X "range":=by rfl)(hs:Bt [e,e'] X.env=[(false,Ec e X.env),(false,Ec e' X.env)]:=by rfl)(bE:Bt [e'] X.env=[(false,Ec e' X.env)]:=by rfl):ZI X tg (.Call (.Name "range" p) [e,e'] [] pos) (sM f f'):=
 ⟨have h:=h.h;
 have h':=h'.h;
 tP (YC hg hm (J7 h (J7 h' Y5 (by rw[bE];rfl)) (by rw[hs,bE])) hs bE) λU H R h_=>by
  refine f7 h_ λY ds B H0 V0 Z e r q=>?_;unfold sM at e;split at e
  .rename_i i he;split at e
   .rename_i j hj;split at e
    .rename_i hok;cases e;refine⟨Y,_,B,H0,V0,Z,he,r,λv H1 s1 r1=>⟨Y,_,B,H0,V0,Z,hj,r.mono s1,λw' H' s rr=>?_⟩⟩
     obtain rfl:=v7.mp r1
     obtain rfl:=v7.mp rr
     exact⟨i,j,rfl,⟨(xH hok.1).1,(xH hok.1).2,(xH hok.2).1,(xH hok.2).2⟩,q _ H' (s1.trans s) (Tp i (j-i).toNat)⟩
    .cases e
   .cases e
  .cases e⟩
def mD(cap:List (Option Nat))(Y:J5):J5:=cap.map λo=>o.bind λj=>(Y[j]?).bind id
def nB(h:D->J5->Option J5)(ft:EB)(fe:ED):J5->List D->Option (List D)
 |_,[]=>some []
 | Y,d::ds=>match h d Y with
  |none=>none
  |some Y1=>match ft Y1 with
   |some true=>(match fe Y1 with
    |some y=>(match nB h ft fe Y1 ds with|some ys=>some (y::ys)|none=>none)
    |none=>none)
   |some false=>nB h ft fe Y1 ds
   |none=>none
def Q5(cap:List (Option Nat))(fi:EL)(h:D->J5->Option J5)(ft:EB)(fe:ED):EL:=λY=>match fi Y with
 |some ds=>if ds.length<=f8 then nB h ft fe (mD cap Y) ds else none
 |none=>none
def lH:EB:=λ_=>some true
def AN{K:A5}{B Z:List As}{H0 V0 H:Hp}{U:St}{Y:J5}{cap:List (Option Nat)}(cr:∀(i j k:Nat),cap[i]?=some (some k)->cap[j]?=some (some k)->i=j)(r:SR K B H0 V0 H Z U Y):
  SR K B H0 V0 H Z (mE cap U) (mD cap Y):=by
 have get:∀{c:Cell} {i:Nat},(mD cap Y)[i]?=some (some c)->∃j,cap[i]?=some (some j)/\Y[j]?=some (some c):=λ{c i} q=>by
  unfold mD at q;rw[Ao]at q
  cases hc:cap[i]? with
  |none=>rw[hc]at q;cases q
  |some o=>
   rw[hc]at q
   cases o with
   |none=>cases q
   |some j=>
    refine⟨j,rfl,?_⟩;have q':(Y[j]?).bind id=some c:=Bi q
    cases hs:Y[j]? with
    |none=>rw[hs]at q';cases q'
    |some z=>
     rw[hs]at q'
     have:z=some c:=q'
     rw[this]
 have put:∀{v:V} {i j:Nat},cap[i]?=some (some j)->U[j]?=some (some v)->(mE cap U)[i]?=some (some v):=λ{v i j} h1 h2=>by unfold mE;rw[Ao,h1];show some ((U[j]?).bind id)=_;rw[h2];rfl
 have iY:∀{v:V} {i j:Nat},cap[i]?=some (some j)->(mE cap U)[i]?=some (some v)->U[j]?=some (some v):=λ{v i j} h1 h2=>by
  unfold mE at h2;rw[Ao,h1]at h2;have bh:(U[j]?).bind id=some v:=Bi h2
  cases hs:U[j]? with
  |none=>rw[hs]at bh;cases bh
  |some z=>
   rw[hs]at bh
   have:z=some v:=bh
   rw[this]
 refine⟨r.same,r.tb,r.vis,r.sub,r.zs,λi d q=>?_,λi ds q=>?_,λi j ds es a q1 q2 s1 s2=>?_,by unfold mE mD;rw[A3,A3]⟩
 .obtain⟨j,h1,h2⟩:=get q;obtain⟨v,t1,t2⟩:=r.sh j d h2;exact⟨v,put h1 t1,t2⟩
 .obtain⟨j,h1,h2⟩:=get q;obtain⟨a,xs,t1,t2⟩:=r.own j ds h2;exact⟨a,xs,put h1 t1,t2⟩
 .obtain⟨i',h1,h2⟩:=get q1;obtain⟨j',h3,h4⟩:=get q2
  have:i'=j':=r.inj i' j' ds es a h2 h4 (iY h1 s1) (iY h3 s2)
  subst this;exact cr i j i' h1 h3
structure BK(K:A5)(Z:List As)(H:Hp)(J:It)(ds:List D):Prop where
 go:∀H',J4 H H'->∀i,i<ds.length->J.go i H'
 yld:∀H',J4 H H'->∀(i:Nat) x H3,J.yld i H' x H3->J4 H' H3/\∀d,ds[i]?=some d->∀Z':List As,(∀z∈Z',∃o,H' z=some o)->J4 (K0 Z H) (K0 Z' H')->e9 K (K0 Z' H3) d x
 stop:∀H',J4 H H'->J.stop ds.length H'
def NF(K:A5)(f:EL):TI:=λU H R=>∃Y ds B H0 V0 Z,f Y=some ds/\SR K B H0 V0 H Z U Y/\∀J H',J4 H H'->BK K Z H' J ds->R J H'
abbrev NL(X:Cx)(tg e:Expr)(f:EL):Prop:=PI X tg e (NF X.K f)
structure GE(X:Cx)(tg e:Expr)(f:EL):Prop where
 h:NL X tg e f
def Y0{tg e:Expr}{f:EL}(h:ZI X tg e f):GE X tg e f:=
 ⟨have h:=h.h;
 tP h λU H R ⟨Y,ds,B,H0,V0,Z,e,r,q⟩=>
 ⟨Y,ds,B,H0,V0,Z,e,r,λJ H' s wk=>q J H' s ⟨λH2 s2=>wk.go H2 (v4.trans s2),λH2 s2=>wk.yld H2 (v4.trans s2),λH2 s2=>wk.stop H2 (v4.trans s2)⟩⟩⟩
def Υ(i:Nat){x:Ba}(hN:X.N[i]?=some x:=by rfl)(hv:mS X.env.scope x:=by first|exact E7 rfl|exact D3 (E7 rfl)|exact D3 (D3 rfl))(hd:(x==("__debug__":Ba))=false:=by decide)(aO:(x==("__classdict__":Ba))=false:=by decide):GE X tg (.Name x pos) (kK i):=
 ⟨tP (RM (nW hN hv hd aO)) λU H R h_=>by
  refine f7 h_ λY ds B H0 V0 Z e r q=>?_;obtain⟨a,xs,h1,h2,hb,h3,h4,h5⟩:=r.ow i ds (tZ e);refine⟨.ref a,h1,a,rfl,⟨xs,i7.of h4⟩,q _ H (J4.refl H) ⟨λH' s j hj=>?_,λH' s j y H3 hy=>?_,λH' s=>⟨xs,i7.of (s _ _ h4),by rw[h5.length];exact Ad _⟩⟩⟩
  .obtain⟨v,cG,_⟩:=h5.get (A4 hj);exact⟨xs,v,i7.of (s _ _ h4),cG⟩
  .obtain⟨rfl,hx⟩:=hy;refine⟨J4.refl _,λd bS Z' hz hs=>?_⟩;obtain⟨v,cG,rv⟩:=h5.get bS
   have:=hx xs (i7.of (s _ _ h4))
   rw[cG]at this;cases this
   exact rv.mono hs⟩
def Sj{cap:List (Option Nat)}(cr:∀(i j k:Nat),cap[i]?=some (some k)->cap[j]?=some (some k)->i=j):
  ∀U H Q,tF X.K (Q5 cap fi h ft fe) U H Q->xZ cap (NF X.K fi) (tG X.K h) (tT X.K ft) (tD X.K fe) U H Q:=λU H Q h_=>by
  refine f7 h_ λY zs B H0 V0 Z e r q=>?_;unfold Q5 at e;split at e
  .rename_i ds aF;split at e
   .rename_i hl;refine⟨Y,ds,B,H0,V0,Z,aF,r,λJ H1 s1 wk l bn=>?_⟩;have R1:=r.mono s1;have sl:J4 H1 (upd H1 l (.lst [])):=u9 bn;have RV:SR X.K B H0 (K0 Z H1) H1 Z U Y:=R1.vis' (λ_ _ h=>h);have eM:=RV.more bn sl w6
    have R2:SR X.K (l::B) H0 (K0 Z H1) (upd H1 l (.lst [])) (l::Z) (mE cap U) (mD cap Y):=AN cr ⟨eM.same,eM.tb,eM.vis,λb hb=>(Ac.mp hb).elim (λz=>z▸A6) λz=>eM.sub b z,eM.zs,eM.sh,λj es hj=>by
     obtain⟨a,xs,t1,t2,tb,t3,t4,t5⟩:=RV.own j es hj;obtain⟨a',gJ,t1',t2',tb',t3',t4',t5'⟩:=eM.own j es hj;rw[t1]at t1';cases t1';refine⟨a,gJ,t1,t2',λz=>?_,t3',t4',t5'⟩;rcases Ac.mp z with z|z
     .rw[z,bn]at t4;cases t4
     .exact tb z,eM.inj,eM.len⟩
    refine⟨λi m U' H' af=>m=ds.length-i/\i<=ds.length/\H' l=some (.lst af)/\J4 H1 H'/\af.length<=i/\∃Y' ys ws,SR X.K (l::B) H0 (K0 Z H1) H' (l::Z) U' Y'/\J3 X.K (K0 (l::Z) H') ys af/\nB h ft fe Y' (ds.drop i)=some ws/\zs=ys++ws,
     ⟨_,rfl,Bh _,w6,sl,Ad _,mD cap Y,[],zs,R2,J3.nil,e,rfl⟩,?_⟩
    rintro i m U' H' af ⟨rfl,bL,aC,hS,ju,Y',ys,ws,r',ry,e',ez⟩;have vis:J4 (K0 Z H1) H':=r'.vis.trans v4;by_cases ak:i<ds.length
    .refine .inr ⟨wk.go H' hS i ak,zW (C7 ju (C7 bL hl)),λx H3 hy=>?_⟩;obtain⟨sH,hx⟩:=wk.yld H' hS i x H3 hy;have hd:=hx ds[i] (A4 ak) (l::Z) r'.zs r'.vis;have aC:=sH _ _ aC;have hS:=hS.trans sH;have ry:=ry.mono (x9 sH);rw[Fs ak]at e';unfold nB at e';split at e'
     .cases e'
     .rename_i Y1 e1;refine⟨Y',ds[i],Y1,l::B,H0,K0 Z H1,l::Z,e1,r'.mono sH,hd,λU4 r4=>?_⟩;split at e'
      .rename_i et;refine⟨Y1,true,l::B,H0,K0 Z H1,l::Z,et,r4,λH5 s5=>sT ?_⟩;split at e'
       .rename_i y ey;split at e'
        .rename_i yy eyy;cases e';refine⟨Y1,y,l::B,H0,K0 Z H1,l::Z,ey,r4.mono s5,λv H6 s6 r6=>⟨s6 _ _ (s5 _ _ aC),ds.length-(i+1),⋯,rfl,ak,w6,t7 bn (hS.trans (s5.trans s6)),?_,Y1,ys++[y],yy,?_,?_,eyy,by rw[ez];simp⟩⟩
         .rw[Ap];simpa using ju
         .have R6:=(r4.mono s5).mono s6;have vs:J4 (K0 (l::Z) H6) (K0 (l::Z) (upd H6 l (.lst (af++[v])))):=qY A6;have nl:H0 l=none:=(r.same.trans s1).free bn;refine⟨t7 nl R6.same,R6.tb.upd (s6 _ _ (s5 _ _ aC)) (λ_ z=>by cases z),R6.vis.trans vs,R6.sub,λz hz=>?_,λj d hj=>let ⟨u,t1,t2⟩:=R6.sh j d hj;⟨u,t1,t2.mono vs⟩,λj es hj=>?_,R6.inj,R6.len⟩
          .by_cases il:z=l
           .subst il;exact⟨_,w6⟩
           .obtain⟨o',br⟩:=R6.zs z hz;exact⟨o',by rw[j3 il];exact br⟩
          .obtain⟨a,xs,t1,t2,tb,t3,t4,t5⟩:=R6.own j es hj;have na:a≠l:=λz=>tb (z▸A6);exact⟨a,xs,t1,t2,tb,t3,by rw[j3 na];exact t4,t5.mono vs⟩
         .exact J3.append (ry.mono ((x9 (s5.trans s6)).trans (qY A6))) (J3.one (r6.mono (qY A6)))
        .cases e'
       .cases e'
      .rename_i et;exact⟨Y1,false,l::B,H0,K0 Z H1,l::Z,et,r4,λH5 s5=>uI ⟨ds.length-(i+1),⋯,rfl,ak,s5 _ _ aC,hS.trans s5,⋯,Y1,ys,ws,r4.mono s5,ry.mono (x9 s5),e',ez⟩⟩
      .cases e'
    .have ei:i=ds.length:=by omega
     subst ei;rw[Mb]at e';unfold nB at e';cases e';rw[Cr]at ez;subst ez;exact .inl ⟨wk.stop H' hS,q l af H' (s1.trans hS) (s1.free bn) aC ry⟩
   .cases e
  .cases e
def í{cap:List (Option Nat)}(hc:X.calm=true)(hi:NL X ae ag fi)(hg:∀cl C fp s H,SG (Y6 X N scope cl C fp s H) ae h)(ht:∀cl C fp s H,sP (Y6 X N scope cl C fp s H) bc (tT X.K ft))(he:∀cl C fp s H,SE (Y6 X N scope cl C fp s H) ba fe)(hk:scope.kind = .function)(ay:∀y∈scope.names,y.2 = .cell->scope.names.lookup y.1=some .cell)(aX:∀x∈scope.names,x.2 = .local->scope.names.lookup x.1=some .local)(bK:∀x∈scope.names,x.2 = .free->scope.names.lookup x.1=some .free)(bp:∀x∈scope.names,x.2 = .free->X.env.scope.names.lookup x.1=some .cell\/X.env.scope.names.lookup x.1=some .free)(bf:∀(i j:Nat),cap[i]?=some (some j)->∃x,N[i]?=some x/\X.N[j]?=some x/\scope.names.lookup x=some .free)(ab:cap.length=N.length)(cr:∀(i j k:Nat),cap[i]?=some (some k)->cap[j]?=some (some k)->i=j)(hs:∀x,Cu ag X.env x=Ci x:=by intro _;rfl):
  SF X (.ListComp ba [⟨ae,ag,bc,0⟩] scope pos) (Q5 cap fi h ft fe):=
 j6 (RJ (g:=tG X.K h) (te:=tD X.K fe) hc hi hg ht he hk ay aX bK bp bf ab hs) (Sj cr)
end
def gI(g:Int->Int->Int):D->D->Option D:=λx y=>match x,y with|.int i,.int j=>some (.int (g i j))|_,_=>none
def gB(g:Int->Int->Bool):D->D->Option D:=λx y=>match x,y with|.int i,.int j=>some (.bl (g i j))|_,_=>none
def uL(C:Int->Int->Bool)(g:Int->Int->Int):D->D->Option D:=λx y=>match x,y with|.int i,.int j=>if C i j=true then some (.int (g i j)) else none|_,_=>none
section
variable{K:A5}
def RR{g:Int->Int->Int}:lP K (sW λi j=>.int (g i j)) (gI g):=by
 intro x y d e Z H u v Q zs hx hy q;unfold gI at e;split at e
 .rename_i i j;cases e
  obtain rfl:=v7.mp hx
  obtain rfl:=v7.mp hy
  exact⟨i,j,rfl,rfl,q _ H (J4.refl H) (v7.mpr rfl)⟩
 .cases e
def vM{g:Int->Int->Bool}:lP K (sW λi j=>.bl (g i j)) (gB g):=by
 intro x y d e Z H u v Q zs hx hy q;unfold gB at e;split at e
 .rename_i i j;cases e
  obtain rfl:=v7.mp hx
  obtain rfl:=v7.mp hy
  exact⟨i,j,rfl,rfl,q _ H (J4.refl H) (Q3.mpr rfl)⟩
 .cases e
def IM{C':Int->Int->Prop}{C:Int->Int->Bool}{g:Int->Int->Int}(hC:∀i j,C i j=true->C' i j):lP K (rI C' λi j=>.int (g i j)) (uL C g):=by
 intro x y d e Z H u v Q zs hx hy q;unfold uL at e;split at e
 .rename_i i j;split at e
  .rename_i hc;cases e
   obtain rfl:=v7.mp hx
   obtain rfl:=v7.mp hy
   exact⟨i,j,rfl,rfl,hC i j hc,q _ H (J4.refl H) (v7.mpr rfl)⟩
  .cases e
 .cases e
def lP.or(h:lP K r g)(h':lP K r' g'):lP K (λx y H Q=>r x y H Q\/r' x y H Q) (λx y=>match g x y with|some d=>some d|none=>g' x y):=by
 intro x y d e Z H u v Q zs hx hy q;dsimp only at e;split at e
 .rename_i d' hd;cases e;exact .inl (h x y d hd Z H u v Q zs hx hy q)
 .exact .inr (h' x y d e Z H u v Q zs hx hy q)
end
def v2C:=gI (λi j=>i+j)
def pJ:=gI (λi j=>i-j)
def uT(i:Int):Bool:=decide (-(2 ^ 64)<i)&&decide (i<2 ^ 64)
def FE:=uL (λi j=>uT i||uT j) (λi j=>i*j)
def oX:=uL (λ_ j=>decide (0<j)) (λi j=>i % j)
def vO:=uL (λ_ j=>decide (0<j)&&decide (j<1073741824)) (λi j=>i / j)
def MT:=gB (λi j=>decide (i<j))
def rN:=gB (λi j=>decide (i<=j))
def BC:=gB (λi j=>decide (j<i))
section
variable{X:Cx}{a b c:Expr}{fa fb fc:ED}{pos:Hi}
def uW(ha:ZE X a fa)(hb:ZE X b fb):ZE X (.BinOp a .Sub b pos) (d2 pJ fa fb):=
 ⟨have ha:=ha.h;
 have hb:=hb.h;
 Ax Ł RR ha hb⟩
def ŝ{K:A5}:lP K (rI BA λi j=>.int (i*j)) FE:=IM (C':=BA) λi j h=>by
  rw[Ki]at h;rcases h with h|h
  .unfold uT at h;rw[B8]at h;exact .inl ⟨lZ h.1,lZ h.2⟩
  .unfold uT at h;rw[B8]at h;exact .inr ⟨lZ h.1,lZ h.2⟩
def wK(ha:ZE X a fa)(hb:ZE X b fb):ZE X (.BinOp a .Mod b pos) (d2 oX fa fb):=
 ⟨have ha:=ha.h;
 have hb:=hb.h;
 Ax ľ (IM λi j h=>lZ h) ha hb⟩
def ER(ha:ZE X a fa)(hb:ZE X b fb):ZE X (.BinOp a .FloorDiv b pos) (d2 vO fa fb):=
 ⟨have ha:=ha.h;
 have hb:=hb.h;
 Ax Ë (IM (C':=UZ) λi j h=>by
  rw[B8]at h
  exact⟨lZ h.1,lZ h.2⟩) ha hb⟩
def ô(ha:ZE X a fa)(hb:ZE X b fb):ZE X (.Compare a [.LtE] [b] pos) (d2 rN fa fb):=
 ⟨have ha:=ha.h;
 have hb:=hb.h;
 UJ FI vM ha hb (tH _)⟩
def Sb(ha:ZE X a fa)(hb:ZE X b fb):ZT X (.Compare a [.Gt] [b] pos) (u0 (d2 BC fa fb)):=
 ⟨have ha:=ha.h;
 have hb:=hb.h;
 xJ v1S vM ha hb (tH _)⟩
end
def MS:D->D->Option D:=λx y=>match x,y with
 | .tup xs,.tup ys=>if xs.length+ys.length<=f8 then some (.tup (xs++ys)) else none
 | .lst xs,.lst ys=>if xs.length+ys.length<=f8 then some (.lst (xs++ys)) else none
 |_,_=>none
def TR(K:A5):R2:=λx y H Q=>∃a b xs ys,x = .ref a/\y = .ref b/\i8 K H a xs/\i8 K H b ys/\xs.length+ys.length<=sizeLine /\
 (xs=[]->Q (.ref b) H)/\(xs≠[]->ys=[]->Q (.ref a) H)/\(xs≠[]->ys≠[]->∀p,H p=none->Q (.ref p) (upd H p (.tup (xs++ys))))
def TQ(K:A5):R2:=λx y H Q=>∃a b xs ys,x = .ref a/\y = .ref b/\i7 K H a xs/\i7 K H b ys/\xs.length+ys.length<=sizeLine/\∀p,H p=none->Q (.ref p) (upd H p (.lst (xs++ys)))
section
variable{X:Cx}
def É:kO X (Hj .Add) (TR X.K):=by
 intro aa s U H x y v u Q I rx ry h;obtain⟨a,b,xs,ys,rfl,rfl,ha,hb,hz,q0,q1,q2⟩:=h;by_cases hx:xs=[]
 .cases rx;cases ry;obtain⟨its,r1,p1,_⟩:=I.tuple ha;obtain⟨aq,r2,p2,_⟩:=I.tuple hb;obtain⟨⟨cls,dd,data,sl⟩,ho,hc,n,hd⟩:=id p1;obtain⟨⟨eO,cB,data2,cM⟩,ce,aY,n2,bw⟩:=id p2;simp only at hc hd aY bw;subst hc hd aY bw;have hv:its=[]:=r1.nil_iff.mpr hx
  exact Mn ⟨_,ho,rfl⟩ ⟨_,ce,rfl⟩ M8 Nh Iz Ir (If _ _)
   (tuple_addW0 a b its.toArray aq.toArray n n2 dd cB sl cM (by simp[hv])) ⟨ho,ce,⟨.ref b,H,I,rfl,q0 hx⟩⟩
 .exact Ê aa s U H _ _ v u Q I rx ry ⟨a,b,xs,ys,rfl,rfl,ha,hb,hx,hz,q1 hx,q2 hx⟩
def RF:kO X (Hj .Add) (TQ X.K):=by
 intro aa s U H x y v u Q I rx ry h;obtain⟨l,b,xs,zs,rfl,rfl,hH,hB,hz,q⟩:=h;cases rx;cases ry;obtain⟨its,r,pl,z⟩:=I.list hH;obtain⟨aq,r2,pl2,z2⟩:=I.list hB;have hl:=r.length;have fF:=r2.length
 have ea:its.toArray++aq.toArray=(its++aq).toArray:=by simp
 obtain⟨⟨cls,dd,data,sl⟩,n,ho,hc,eC,hd⟩:=id pl;obtain⟨⟨eO,cB,data2,cM⟩,n2,ce,aY,iz,bw⟩:=id pl2;simp only at hc hd aY bw eC iz;subst hc hd aY bw eC iz;refine Mn ⟨_,ho,rfl⟩ ⟨_,ce,rfl⟩ noFill_list_add seq_list_add PySem.F.slot_list_add PySem.F.entry_list_add (PySem.F.args_list_add_2 _ _) (list_addW l b its.toArray aq.toArray n n2 none none sl cM (by rw[Af,Af];omega)) ⟨ho,ce,?_⟩
 rw[ea];exact⟨.ref _,_,I.lnew (t':=s.toks) (r.append r2) (by rw[Ap];omega),rfl,q _ I.fresh⟩
def ř{K:A5}:lP K (λx y H Q=>TR K x y H Q\/TQ K x y H Q) MS:=by
 intro x y d e Z H u v Q zs hx hy q
 have newer:∀{p:As},H p=none->p∉Z:=λhp z=>by obtain⟨o,ho⟩:=zs _ z;rw[hp]at ho;cases ho
 unfold MS at e;split at e
 .rename_i xs ys;split at e
  .rename_i hl;cases e;obtain⟨a,us,rfl,h1,h2⟩:=j5.mp hx;obtain⟨b,ws,rfl,h3,h4⟩:=j5.mp hy;refine .inl ⟨a,b,us,ws,rfl,rfl,j9 v4 h1,j9 v4 h3,by rw[<-h2.length,<-h4.length];exact vL hl,λz=>?_,λz1 z2=>?_,λz1 z2 p hp=>?_⟩
   .have:xs=[]:=F1 (by rw[h2.length,z];rfl)
    subst this;exact q _ H (J4.refl H) hy
   .have:ys=[]:=F1 (by rw[h4.length,z2];rfl)
    subst this;rw[Cr]at q;exact q _ H (J4.refl H) hx
   .have sn:=u9 (o:=HO.tup (us++ws)) hp;refine q _ _ sn (j5.mpr ⟨p,_,rfl,i8.of ?_,(J3.append h2 h4).mono (x9 sn)⟩);rw[K8 (newer hp)];exact w6
  .cases e
 .rename_i xs ys;split at e
  .rename_i hl;cases e;obtain⟨a,us,rfl,h1,h2⟩:=K6.mp hx;obtain⟨b,ws,rfl,h3,h4⟩:=K6.mp hy;refine .inr ⟨a,b,us,ws,rfl,rfl,v4.seq h1,v4.seq h3,by rw[<-h2.length,<-h4.length];exact vL hl,λp hp=>?_⟩
   have sn:=u9 (o:=HO.lst (us++ws)) hp;refine q _ _ sn (K6.mpr ⟨p,_,rfl,i7.of ?_,(J3.append h2 h4).mono (x9 sn)⟩);rw[K8 (newer hp)];exact w6
  .cases e
 .cases e
variable{a b c:Expr}{fa fb fc:ED}{pos:Hi}
def jE:D->D->Option D:=λx y=>match v2C x y with|some d=>some d|none=>MS x y
def Q2(ha:ZE X a fa)(hb:ZE X b fb):ZE X (.BinOp a .Add b pos) (d2 jE fa fb):=
 ⟨have ha:=ha.h;
 have hb:=hb.h;
 Ax (Ļ.or (É.or RF)) (lP.or RR ř) ha hb⟩
def LP(fa fb:EL):EL:=λY=>match fa Y with|some xs=>(match fb Y with|some ys=>if xs.length+ys.length<=f8 then some (xs++ys) else none|none=>none)|none=>none
def lJ:List D->Option (List Int)
 | []=>some []
 | .int i::r=>(lJ r).map (i::·)
 |_::_=>none
theorem rF:∀{ds:List D} {ns:List Int},lJ ds=some ns->ds=ns.map D.int
 | [],ns,e=>by cases e;rfl
 | .int i::r,ns,e=>by unfold lJ at e;obtain⟨ms,h1,rfl⟩:=B5.mp e;rw[rF h1];rfl
 | .non::r,ns,e=>by unfold lJ at e;cases e
 | .bl _::r,ns,e=>by unfold lJ at e;cases e
 | .str _::r,ns,e=>by unfold lJ at e;cases e
 | .tup _::r,ns,e=>by unfold lJ at e;cases e
 | .lst _::r,ns,e=>by unfold lJ at e;cases e
 | .dct _ _::r,ns,e=>by unfold lJ at e;cases e
theorem Qi(ns:List Int):lJ (ns.map D.int)=some ns:=by
 induction ns with
 |nil=>rfl
 |cons n r ih=>rw[Ai,lJ,ih];rfl
def MU:D->D->Option D:=λx y=>match x,y with
 | .tup xs,.tup ys=>(match lJ xs,lJ ys with|some ns,some ms=>some (.bl (HT.lexLt ns ms))|_,_=>none)
 |_,_=>none
def Ŝ{K:A5}:lP K (Ve K) MU:=by
 intro x y d e Z H u v Q zs hx hy q;unfold MU at e;split at e
 .rename_i xs ys;split at e
  .rename_i ns ms h1 h2;cases e;obtain⟨a,us,rfl,h3,h4⟩:=j5.mp hx;obtain⟨b,ws,rfl,h5,h6⟩:=j5.mp hy;rw[rF h1,Y9]at h4;rw[rF h2,Y9]at h6;subst h4 h6;exact⟨a,b,ns,ms,rfl,rfl,j9 v4 h3,j9 v4 h5,q _ H (J4.refl H) (Q3.mpr rfl)⟩
  .cases e
 .cases e
def oU:D->D->Option D:=λx y=>match MT x y with|some d=>some d|none=>MU x y
def AS:V->Bool
 | .non=>true
 | .bl _=>true
 |_=>false
def ļ:kO X (De .Is) (λx y H Q=>AS y=true/\Q (.bl (decide (x=y))) H):=by
 intro aa s U H x y v u Q I rx ry h;obtain⟨hf,q⟩:=h
 have go:plainIs v u=true/\(v==u)=decide (x=y):=by
  cases y with
  |non=>cases ry;cases x<;>first|(cases rx;exact⟨rfl,rfl⟩)|(obtain⟨t,rfl⟩:=rx;exact⟨rfl,rfl⟩)
  |bl k=>
   cases ry
   cases x with
   |bl k'=>cases rx;refine⟨rfl,?_⟩;cases k<;>cases k'<;>rfl
   |non=>cases rx;exact⟨rfl,rfl⟩
   |ref _=>cases rx;exact⟨rfl,rfl⟩
   |ty _=>cases rx;exact⟨rfl,rfl⟩
   |int _=>obtain⟨t,rfl⟩:=rx;exact⟨rfl,rfl⟩
   |str _=>obtain⟨t,rfl⟩:=rx;exact⟨rfl,rfl⟩
   |byt _=>obtain⟨t,rfl⟩:=rx;exact⟨rfl,rfl⟩
   |flt _=>obtain⟨t,rfl⟩:=rx;exact⟨rfl,rfl⟩
  |_=>cases hf
 exact wpAny_is_plain go.1 ⟨.bl _,H,I,by rw[go.2];rfl,q⟩
def Yy:kO X (De .IsNot) (λx y H Q=>AS y=true/\Q (.bl (!decide (x=y))) H):=by
 intro aa s U H x y v u Q I rx ry h;obtain⟨hf,q⟩:=h
 have go:plainIs v u=true/\(v==u)=decide (x=y):=by
  cases y with
  |non=>cases ry;cases x<;>first|(cases rx;exact⟨rfl,rfl⟩)|(obtain⟨t,rfl⟩:=rx;exact⟨rfl,rfl⟩)
  |bl k=>
   cases ry
   cases x with
   |bl k'=>cases rx;refine⟨rfl,?_⟩;cases k<;>cases k'<;>rfl
   |non=>cases rx;exact⟨rfl,rfl⟩
   |ref _=>cases rx;exact⟨rfl,rfl⟩
   |ty _=>cases rx;exact⟨rfl,rfl⟩
   |int _=>obtain⟨t,rfl⟩:=rx;exact⟨rfl,rfl⟩
   |str _=>obtain⟨t,rfl⟩:=rx;exact⟨rfl,rfl⟩
   |byt _=>obtain⟨t,rfl⟩:=rx;exact⟨rfl,rfl⟩
   |flt _=>obtain⟨t,rfl⟩:=rx;exact⟨rfl,rfl⟩
  |_=>cases hf
 exact wpAny_isNot_plain go.1 ⟨.bl _,H,I,by rw[go.2];rfl,q⟩
def GA:D->D->Option Bool:=λx y=>match y with
 | .non=>(match x with|.non=>some true|_=>some false)
 | .bl b=>(match x with|.bl b'=>some (b'==b)|_=>some false)
 |_=>none
def yL:D->D->Option D:=λx y=>(GA x y).map D.bl
def yE:D->D->Option D:=λx y=>(GA x y).map λb=>D.bl (!b)
theorem Ug{K:A5}{H:Hp}{x y:D}{u v:V}{b:Bool}(e:GA x y=some b)(hx:e9 K H x u)(hy:e9 K H y v):AS v=true/\decide (u=v)=b:=by
 have ref:∀{x:D} {u:V},e9 K H x u->(match x with|.tup _=>∃a,u = .ref a|.lst _=>∃a,u = .ref a|.dct _ _=>∃a,u = .ref a|_=>True):=λ{x u} h=>by
  cases x with
  |tup _=>obtain⟨a,_,e,_⟩:=j5.mp h;exact⟨a,e⟩
  |lst _=>obtain⟨a,_,e,_⟩:=K6.mp h;exact⟨a,e⟩
  |dct _ _=>obtain⟨a,_,e,_⟩:=mQ.mp h;exact⟨a,e⟩
  |_=>trivial
 unfold GA at e
 cases y with
 |non=>
  obtain rfl:=mJ.mp hy
  refine⟨rfl,?_⟩
  cases x with
  |non=>obtain rfl:=mJ.mp hx;cases e;rfl
  |bl _=>obtain rfl:=Q3.mp hx;cases e;rfl
  |int _=>obtain rfl:=v7.mp hx;cases e;rfl
  |str _=>obtain rfl:=mB.mp hx;cases e;rfl
  |tup _=>obtain⟨a,rfl⟩:=ref hx;cases e;rfl
  |lst _=>obtain⟨a,rfl⟩:=ref hx;cases e;rfl
  |dct _ _=>obtain⟨a,rfl⟩:=ref hx;cases e;rfl
 |bl k=>
  obtain rfl:=Q3.mp hy
  refine⟨rfl,?_⟩
  cases x with
  |non=>obtain rfl:=mJ.mp hx;cases e;rfl
  |bl k'=>obtain rfl:=Q3.mp hx;cases e;cases k<;>cases k'<;>rfl
  |int _=>obtain rfl:=v7.mp hx;cases e;rfl
  |str _=>obtain rfl:=mB.mp hx;cases e;rfl
  |tup _=>obtain⟨a,rfl⟩:=ref hx;cases e;rfl
  |lst _=>obtain⟨a,rfl⟩:=ref hx;cases e;rfl
  |dct _ _=>obtain⟨a,rfl⟩:=ref hx;cases e;rfl
 |_=>cases e
def v1G{K:A5}:lP K (λx y H Q=>AS y=true/\Q (.bl (decide (x=y))) H) yL:=by intro x y d e Z H u v Q zs hx hy q;unfold yL at e;obtain⟨b,hb,rfl⟩:=B5.mp e;obtain⟨h1,h2⟩:=Ug hb hx hy;refine⟨h1,?_⟩;rw[h2];exact q _ H (J4.refl H) (Q3.mpr rfl)
def ś{K:A5}:lP K (λx y H Q=>AS y=true/\Q (.bl (!decide (x=y))) H) yE:=by intro x y d e Z H u v Q zs hx hy q;unfold yE at e;obtain⟨b,hb,rfl⟩:=B5.mp e;obtain⟨h1,h2⟩:=Ug hb hx hy;refine⟨h1,?_⟩;rw[h2];exact q _ H (J4.refl H) (Q3.mpr rfl)
def UX(ha:ZE X a fa)(hb:ZE X b fb):ZT X (.Compare a [.Is] [b] pos) (u0 (d2 yL fa fb)):=
 ⟨have ha:=ha.h;
 have hb:=hb.h;
 xJ ļ v1G ha hb (tH _)⟩
def Sc(ha:ZE X a fa)(hb:ZE X b fb):ZT X (.Compare a [.IsNot] [b] pos) (u0 (d2 yE fa fb)):=
 ⟨have ha:=ha.h;
 have hb:=hb.h;
 xJ Yy ś ha hb (tH _)⟩
end
end L3
namespace L3
open PySem PySem.Spec PyProof.Rows L2 PySem.SeqAt
mutual
def kG:D->D->Bool
 | .non,e=>(match e with|.non=>true|_=>false)
 | .bl a,e=>(match e with|.bl b=>a==b|.int j=>(if a then (1:Int) else 0)==j|_=>false)
 | .int i,e=>(match e with|.int j=>i==j|.bl b=>i==(if b then (1:Int) else 0)|_=>false)
 | .str x,e=>(match e with|.str y=>x==y|_=>false)
 | .tup xs,e=>(match e with|.tup ys=>pV xs ys|_=>false)
 | .lst xs,e=>(match e with|.lst ys=>pV xs ys|_=>false)
 | .dct ks xs,e=>(match e with|.dct js ys=>decide (ks=js)&&pV xs ys|_=>false)
def pV:List D->List D->Bool
 | [],e=>(match e with|[]=>true|_=>false)
 |x::xs,e=>(match e with|y::ys=>kG x y&&pV xs ys|[]=>false)
end
mutual
def depth:D->Nat
 | .tup xs=>lT xs+1
 | .lst xs=>lT xs+1
 | .dct _ xs=>lT xs+1000
 |_=>0
def lT:List D->Nat
 | []=>0
 |x::xs=>max (depth x) (lT xs)
end
theorem wS:∀{ds:List D} {i:Nat} {d:D},ds[i]?=some d->depth d<=lT ds
 | [],_,_,e=>by simp at e
 |x::xs,0,d,e=>by simp at e;subst e;rw[lT];omega
 |x::xs,i+1,d,e=>by
  have:=wS (ds:=xs) (i:=i) (d:=d) (by simpa using e)
  rw[lT];omega
mutual
theorem BU:∀d:D,kG d d=true
 | .non=>by rw[kG]
 | .bl b=>by rw[kG];exact beq_self_eq_true b
 | .int i=>by rw[kG];exact beq_self_eq_true i
 | .str x=>by rw[kG];exact beq_self_eq_true x
 | .tup xs=>by rw[kG];exact CP xs
 | .lst xs=>by rw[kG];exact CP xs
 | .dct ks xs=>by rw[kG,CP xs];simp
theorem CP:∀ds:List D,pV ds ds=true
 | []=>by rw[pV]
 |d::ds=>by rw[pV,BU d,CP ds];rfl
end
theorem DB:∀(xs ys:List D),pV xs ys=((Aa (Mw xs.length ys.length)).all (λj=>kG (xs.getD j .non) (ys.getD j .non))&&xs.length==ys.length)
 | [],[]=>by rw[pV];rfl
 | [],y::ys=>by simp[pV]
 |x::xs,[]=>by simp[pV]
 |x::xs,y::ys=>by
  rw[pV,DB xs ys]
  have e:Mw (x::xs).length (y::ys).length=Mw xs.length ys.length+1:=by simp only[Au];omega
  rw[e,Gp,List.all_cons,List.all_map]
  have e2:((x::xs).length==(y::ys).length)=(xs.length==ys.length):=by simp
  rw[e2,Bool.and_assoc];rfl
section
variable{X:Cx}{aa:i6}{U:St}{H:Hp}{s:Ae}
theorem IN{K:A5}{d:D}{a:As}(h:e9 K H d (.ref a)):(∃ds,d = .tup ds)\/(∃ds,d = .lst ds)\/∃ks ds,d = .dct ks ds:=by
 cases d with
 |non=>cases mJ.mp h
 |bl _=>cases Q3.mp h
 |int _=>cases v7.mp h
 |str _=>cases mB.mp h
 |tup ds=>exact .inl ⟨ds,rfl⟩
 |lst ds=>exact .inr (.inl ⟨ds,rfl⟩)
 |dct ks ds=>exact .inr (.inr ⟨ks,ds,rfl⟩)
def Rf(I:a9 X aa U H s)(h:H a=some (.dK kvs)):∃o,s.heap.get? a=some o/\o.cls = .type "dict":=by obtain⟨_,_,vs,_,p⟩:=(show kX X.prog X.w H s.heap a (.dK kvs) from I.hok a _ h);obtain⟨o,es,ep,h1,h2,_⟩:=p;exact⟨o,h1,h2.1⟩
def TC(I:a9 X aa U H s)(h:H a=some (.dK kvs))(h':i8 X.K H a xs):False:=by obtain⟨o,e,c⟩:=Rf I h;obtain⟨its,_,p,_⟩:=I.tuple h';obtain⟨o',h1,h2,_⟩:=p;rw[e]at h1;cases h1;rw[c]at h2;revert h2;simp
def Tz(I:a9 X aa U H s)(h:H a=some (.dK kvs))(h':i7 X.K H a xs):False:=by obtain⟨o,e,c⟩:=Rf I h;obtain⟨its,_,p,_⟩:=I.list h';obtain⟨o',n,h1,h2,_⟩:=p;rw[e]at h1;cases h1;rw[c]at h2;revert h2;simp
def RE(I:a9 X aa U H s)(h:i8 X.K H a xs)(h':i7 X.K H a ys):False:=by obtain⟨its,_,p,_⟩:=I.tuple h;obtain⟨aq,_,q,_⟩:=I.list h';exact ne_of_list_tuple q.isList p rfl
mutual
theorem EN(I:a9 X aa U H s):∀{d e:D} {v:V},e9 X.K H d v->e9 X.K H e v->d=e
 | .non,e,v,h,h'=>by
  obtain rfl:=mJ.mp h
  cases e with
  |non=>rfl
  |bl _=>cases Q3.mp h'
  |int _=>cases v7.mp h'
  |str _=>cases mB.mp h'
  |tup _=>obtain⟨_,_,z,_⟩:=j5.mp h';cases z
  |lst _=>obtain⟨_,_,z,_⟩:=K6.mp h';cases z
  |dct _ _=>obtain⟨_,_,z,_⟩:=mQ.mp h';cases z
 | .bl b,e,v,h,h'=>by
  obtain rfl:=Q3.mp h
  cases e with
  |non=>cases mJ.mp h'
  |bl _=>cases Q3.mp h';rfl
  |int _=>cases v7.mp h'
  |str _=>cases mB.mp h'
  |tup _=>obtain⟨_,_,z,_⟩:=j5.mp h';cases z
  |lst _=>obtain⟨_,_,z,_⟩:=K6.mp h';cases z
  |dct _ _=>obtain⟨_,_,z,_⟩:=mQ.mp h';cases z
 | .int b,e,v,h,h'=>by
  obtain rfl:=v7.mp h
  cases e with
  |non=>cases mJ.mp h'
  |bl _=>cases Q3.mp h'
  |int _=>cases v7.mp h';rfl
  |str _=>cases mB.mp h'
  |tup _=>obtain⟨_,_,z,_⟩:=j5.mp h';cases z
  |lst _=>obtain⟨_,_,z,_⟩:=K6.mp h';cases z
  |dct _ _=>obtain⟨_,_,z,_⟩:=mQ.mp h';cases z
 | .str b,e,v,h,h'=>by
  obtain rfl:=mB.mp h
  cases e with
  |non=>cases mJ.mp h'
  |bl _=>cases Q3.mp h'
  |int _=>cases v7.mp h'
  |str _=>cases mB.mp h';rfl
  |tup _=>obtain⟨_,_,z,_⟩:=j5.mp h';cases z
  |lst _=>obtain⟨_,_,z,_⟩:=K6.mp h';cases z
  |dct _ _=>obtain⟨_,_,z,_⟩:=mQ.mp h';cases z
 | .tup ds,e,v,h,h'=>by
  obtain⟨a,xs,rfl,h1,h2⟩:=j5.mp h;rcases IN h' with⟨es,rfl⟩|⟨es,rfl⟩|⟨ks,es,rfl⟩
  .obtain⟨b,ys,z,h3,h4⟩:=j5.mp h';cases z
   have:=I.tuple_inj h1 h3
   subst this;rw[CG I h2 h4]
  .obtain⟨b,ys,z,h3,h4⟩:=K6.mp h';cases z;exact(RE I h1 h3).elim
  .obtain⟨b,ys,z,h3,h4⟩:=mQ.mp h';cases z;exact(TC I h3 h1).elim
 | .lst ds,e,v,h,h'=>by
  obtain⟨a,xs,rfl,h1,h2⟩:=K6.mp h;rcases IN h' with⟨es,rfl⟩|⟨es,rfl⟩|⟨ks,es,rfl⟩
  .obtain⟨b,ys,z,h3,h4⟩:=j5.mp h';cases z;exact(RE I h3 h1).elim
  .obtain⟨b,ys,z,h3,h4⟩:=K6.mp h';cases z
   have:=I.list_inj h1 h3
   subst this;rw[CG I h2 h4]
  .obtain⟨b,ys,z,h3,h4⟩:=mQ.mp h';cases z;exact(Tz I h3 h1).elim
 | .dct ks ds,e,v,h,h'=>by
  obtain⟨a,kvs,rfl,h1,h2,bh⟩:=mQ.mp h;rcases IN h' with⟨es,rfl⟩|⟨es,rfl⟩|⟨js,es,rfl⟩
  .obtain⟨b,ys,z,h3,h4⟩:=j5.mp h';cases z;exact(TC I h1 h3).elim
  .obtain⟨b,ys,z,h3,h4⟩:=K6.mp h';cases z;exact(Tz I h1 h3).elim
  .obtain⟨b,ys,z,h3,h4,h5⟩:=mQ.mp h';cases z;rw[h1]at h3;cases h3;rw[<-h2,<-h4,CG I bh h5]
theorem CG(I:a9 X aa U H s):∀{ds es:List D} {xs:List V},J3 X.K H ds xs->J3 X.K H es xs->ds=es
 | [],es,xs,h,h'=>by
  obtain rfl:=J9.mp h
  cases es with
  |nil=>rfl
  |cons e es=>obtain⟨_,_,z,_⟩:=j7.mp h';cases z
 |d::ds,es,xs,h,h'=>by
  obtain⟨v,vs,rfl,h1,h2⟩:=j7.mp h
  cases es with
  |nil=>cases J9.mp h'
  |cons e es=>obtain⟨v',hJ,z,h3,h4⟩:=j7.mp h';cases z;rw[EN I h1 h3,CG I h2 h4]
end
def K5{α:Type}{xs:List α}{j:Nat}{d x:α}(h:xs[j]?=some x):xs.getD j d=x:=by rw[Cv,h];rfl
theorem Rg(I:a9 X aa U H s){A:Bz}(h0:A.units<D8)(hd:depth d=0)(he:depth e<1000)(hx:e9 X.K H d x)(hy:e9 X.K H e y)(rx:f9 x u)(ry:f9 y v):
  Ge A s u v (kG d e)/\Gj A s u v (kG d e)/\Dm A s u v (!kG d e):=by
 cases d with
 |tup xs=>rw[depth]at hd;omega
 |lst xs=>rw[depth]at hd;omega
 |dct _ xs=>rw[depth]at hd;omega
 |non=>
  obtain rfl:=mJ.mp hx
  cases rx
  cases e with
  |non=>obtain rfl:=mJ.mp hy;cases ry;exact⟨Ow _,Gj.none_none,Dm.none_none⟩
  |bl b=>obtain rfl:=Q3.mp hy;cases ry;exact⟨Ge.none_bool b,Gj.none_bool b,Dm.none_bool b⟩
  |int j=>obtain rfl:=v7.mp hy;obtain⟨t,rfl⟩:=ry;exact⟨Ge.none_int j t,Gj.none_int j t,Dm.none_int j t⟩
  |str z=>obtain rfl:=mB.mp hy;obtain⟨t,rfl⟩:=ry;exact⟨Ge.none_str z t,Gj.none_str z t,Dm.none_str z t⟩
  |tup ys=>obtain⟨b,zs,rfl,h1,_⟩:=j5.mp hy;cases ry;obtain⟨its,_,p,_⟩:=I.tuple h1;exact⟨Ge.none_tuple p h0,Gj.none_tuple p h0,Dm.none_tuple p h0⟩
  |lst ys=>obtain⟨b,zs,rfl,h1,_⟩:=K6.mp hy;cases ry;obtain⟨its,_,p,_⟩:=I.list h1;exact⟨Ge.none_list p.isList h0,Gj.none_list p.isList h0,Dm.none_list p.isList h0⟩
  |dct _ ys=>rw[depth]at he;omega
 |bl a=>
  obtain rfl:=Q3.mp hx
  cases rx
  cases e with
  |non=>obtain rfl:=mJ.mp hy;cases ry;exact⟨Ge.bool_none a,Gj.bool_none a,Dm.bool_none a⟩
  |bl b=>obtain rfl:=Q3.mp hy;cases ry;exact⟨Ge.bool_bool a b,Gj.bool_bool a b,Dm.bool_bool a b⟩
  |int j=>obtain rfl:=v7.mp hy;obtain⟨t,rfl⟩:=ry;exact⟨Ge.bool_int a j t,Gj.bool_int a j t,Dm.bool_int a j t⟩
  |str z=>obtain rfl:=mB.mp hy;obtain⟨t,rfl⟩:=ry;exact⟨Ge.bool_str a z t,Gj.bool_str a z t,Dm.bool_str a z t⟩
  |tup ys=>obtain⟨b,zs,rfl,h1,_⟩:=j5.mp hy;cases ry;obtain⟨its,_,p,_⟩:=I.tuple h1;exact⟨Ge.bool_tuple a p h0,Gj.bool_tuple a p h0,Dm.bool_tuple a p h0⟩
  |lst ys=>obtain⟨b,zs,rfl,h1,_⟩:=K6.mp hy;cases ry;obtain⟨its,_,p,_⟩:=I.list h1;exact⟨Ge.bool_list a p.isList h0,Gj.bool_list a p.isList h0,Dm.bool_list a p.isList h0⟩
  |dct _ ys=>rw[depth]at he;omega
 |int i=>
  obtain rfl:=v7.mp hx
  obtain⟨t0,rfl⟩:=rx
  cases e with
  |non=>obtain rfl:=mJ.mp hy;cases ry;exact⟨Ge.int_none i t0,Gj.int_none i t0,Dm.int_none i t0⟩
  |bl b=>obtain rfl:=Q3.mp hy;cases ry;exact⟨Ge.int_bool i t0 b,Gj.int_bool i t0 b,Dm.int_bool i t0 b⟩
  |int j=>obtain rfl:=v7.mp hy;obtain⟨t,rfl⟩:=ry;exact⟨Ge.int_int i t0 j t,Gj.int_int i t0 j t,Dm.int_int i t0 j t⟩
  |str z=>obtain rfl:=mB.mp hy;obtain⟨t,rfl⟩:=ry;exact⟨Ge.int_str i t0 z t,Gj.int_str i t0 z t,Dm.int_str i t0 z t⟩
  |tup ys=>obtain⟨b,zs,rfl,h1,_⟩:=j5.mp hy;cases ry;obtain⟨its,_,p,_⟩:=I.tuple h1;exact⟨Ge.int_tuple i t0 p h0,Gj.int_tuple i t0 p h0,Dm.int_tuple i t0 p h0⟩
  |lst ys=>obtain⟨b,zs,rfl,h1,_⟩:=K6.mp hy;cases ry;obtain⟨its,_,p,_⟩:=I.list h1;exact⟨Ge.int_list i t0 p.isList h0,Gj.int_list i t0 p.isList h0,Dm.int_list i t0 p.isList h0⟩
  |dct _ ys=>rw[depth]at he;omega
 |str w'=>
  obtain rfl:=mB.mp hx
  obtain⟨t0,rfl⟩:=rx
  cases e with
  |non=>obtain rfl:=mJ.mp hy;cases ry;exact⟨Ge.str_none w' t0,Gj.str_none w' t0,Dm.str_none w' t0⟩
  |bl b=>obtain rfl:=Q3.mp hy;cases ry;exact⟨Ge.str_bool w' t0 b,Gj.str_bool w' t0 b,Dm.str_bool w' t0 b⟩
  |int j=>obtain rfl:=v7.mp hy;obtain⟨t,rfl⟩:=ry;exact⟨Ge.str_int w' t0 j t,Gj.str_int w' t0 j t,Dm.str_int w' t0 j t⟩
  |str z=>obtain rfl:=mB.mp hy;obtain⟨t,rfl⟩:=ry;exact⟨Ge.str_str w' t0 z t,Gj.str_str w' t0 z t,Dm.str_str w' t0 z t⟩
  |tup ys=>obtain⟨b,zs,rfl,h1,_⟩:=j5.mp hy;cases ry;obtain⟨its,_,p,_⟩:=I.tuple h1;exact⟨Ge.str_tuple w' t0 p h0,Gj.str_tuple w' t0 p h0,Dm.str_tuple w' t0 p h0⟩
  |lst ys=>obtain⟨b,zs,rfl,h1,_⟩:=K6.mp hy;cases ry;obtain⟨its,_,p,_⟩:=I.list h1;exact⟨Ge.str_list w' t0 p.isList h0,Gj.str_list w' t0 p.isList h0,Dm.str_list w' t0 p.isList h0⟩
  |dct _ ys=>rw[depth]at he;omega
theorem LK(I:a9 X aa U H s):∀(n:Nat) (A:Bz),A.units+n<D8->n<1000->∀{d e:D} {x y:V} {u v:A9},depth d<=n->depth e<1000->e9 X.K H d x->e9 X.K H e y->f9 x u->f9 y v ->
  Ge A s u v (kG d e)/\Gj A s u v (kG d e)/\Dm A s u v (!kG d e):=by
 intro n
 induction n with
 |zero=>intro A hu hn d e x y u v hd he hx hy rx ry;exact Rg I ⋯ ⋯ he hx hy rx ry
 |succ n ih=>
  intro A hu hn d e x y u v hd he hx hy rx ry
  have h0:A.units<D8:=by omega
  have cJ:A.in1.units+n<D8:=by show A.units+1+n<D8;omega
  by_cases eA:depth d=0
  .exact Rg I h0 eA he hx hy rx ry
  .cases d with
   |non=>exact u3 (by simp[depth]) eA
   |bl _=>exact u3 (by simp[depth]) eA
   |int _=>exact u3 (by simp[depth]) eA
   |str _=>exact u3 (by simp[depth]) eA
   |dct _ xs=>rw[depth]at hd;omega
   |tup xs=>
    obtain⟨a,us,rfl,h1,h2⟩:=j5.mp hx;cases rx;obtain⟨its,rv,p,_⟩:=I.tuple h1;rw[depth]at hd
    cases e with
    |dct _ ys=>rw[depth]at he;omega
    |non=>obtain rfl:=mJ.mp hy;cases ry;exact⟨Ge.tuple_none p h0,Gj.tuple_none p h0,Dm.tuple_none p h0⟩
    |bl b=>obtain rfl:=Q3.mp hy;cases ry;exact⟨Ge.tuple_bool b p h0,Gj.tuple_bool b p h0,Dm.tuple_bool b p h0⟩
    |int j=>obtain rfl:=v7.mp hy;obtain⟨t,rfl⟩:=ry;exact⟨Ge.tuple_int j t p h0,Gj.tuple_int j t p h0,Dm.tuple_int j t p h0⟩
    |str z=>obtain rfl:=mB.mp hy;obtain⟨t,rfl⟩:=ry;exact⟨Ge.tuple_str z t p h0,Gj.tuple_str z t p h0,Dm.tuple_str z t p h0⟩
    |lst ys=>obtain⟨b,zs,rfl,g1,_⟩:=K6.mp hy;cases ry;obtain⟨aq,_,p2,_⟩:=I.list g1;exact⟨Ge.tuple_list p p2.isList h0,Gj.tuple_list p p2.isList h0,Dm.tuple_list p p2.isList h0⟩
    |tup ys=>
     obtain⟨b,zs,rfl,g1,g2⟩:=j5.mp hy;cases ry;obtain⟨aq,jx,p2,_⟩:=I.tuple g1
     have l1:its.toArray.size=xs.length:=by rw[Af,<-rv.length,<-h2.length]
     have l2:aq.toArray.size=ys.length:=by rw[Af,<-jx.length,<-g2.length]
     have items:∀j (k1:j<its.toArray.size) (k2:j<aq.toArray.size),Ge A.in1 s its.toArray[j] aq.toArray[j] (kG (xs.getD j .non) (ys.getD j .non)):=λj k1 k2=>by
      have fU:j<xs.length:=by omega
      have gp:j<ys.length:=by omega
      obtain⟨vj,e1,r1⟩:=h2.get (A4 fU);obtain⟨wj,e2,r2⟩:=g2.get (A4 gp);obtain⟨uj,f1,s1⟩:=rv.get e1;obtain⟨tj,f2,s2⟩:=jx.get e2
      have z1:its.toArray[j]=uj:=by
       rw[A4 (by rw[Af]at k1;exact k1)]at f1
       simpa using f1
      have z2:aq.toArray[j]=tj:=by
       rw[A4 (by rw[Af]at k2;exact k2)]at f2
       simpa using f2
      rw[z1,z2,K5 (A4 fU),K5 (A4 gp)];have dd:=wS (A4 fU);have de:=wS (A4 gp);rw[depth]at he;exact(ih A.in1 cJ ⋯ ⋯ ⋯ r1 r2 s1 s2).1
     have eb:kG (.tup xs) (.tup ys)=((Aa (Mw its.toArray.size aq.toArray.size)).all (λj=>kG (xs.getD j .non) (ys.getD j .non))&&its.toArray.size==aq.toArray.size):=by rw[kG,DB,l1,l2]
     have rc:Gj A s (.ref a) (.ref b) (kG (.tup xs) (.tup ys)):=by rw[eb];exact Gj.tuples p p2 h0 items
     have rn:Dm A s (.ref a) (.ref b) (!kG (.tup xs) (.tup ys)):=by rw[eb];exact Dm.tuples p p2 h0 items
     refine⟨?_,rc,rn⟩;by_cases bW:a=b
     .subst bW;rw[EN I hx hy,BU];exact Ow _
     .exact Ge.of_refs bW rc
   |lst xs=>
    obtain⟨a,us,rfl,h1,h2⟩:=K6.mp hx;cases rx;obtain⟨its,rv,p,_⟩:=I.list h1;rw[depth]at hd
    cases e with
    |dct _ ys=>rw[depth]at he;omega
    |non=>obtain rfl:=mJ.mp hy;cases ry;exact⟨Ge.list_none p.isList h0,Gj.list_none p.isList h0,Dm.list_none p.isList h0⟩
    |bl b=>obtain rfl:=Q3.mp hy;cases ry;exact⟨Ge.list_bool b p.isList h0,Gj.list_bool b p.isList h0,Dm.list_bool b p.isList h0⟩
    |int j=>obtain rfl:=v7.mp hy;obtain⟨t,rfl⟩:=ry;exact⟨Ge.list_int j t p.isList h0,Gj.list_int j t p.isList h0,Dm.list_int j t p.isList h0⟩
    |str z=>obtain rfl:=mB.mp hy;obtain⟨t,rfl⟩:=ry;exact⟨Ge.list_str z t p.isList h0,Gj.list_str z t p.isList h0,Dm.list_str z t p.isList h0⟩
    |tup ys=>obtain⟨b,zs,rfl,g1,_⟩:=j5.mp hy;cases ry;obtain⟨aq,_,p2,_⟩:=I.tuple g1;exact⟨Ge.list_tuple p.isList p2 h0,Gj.list_tuple p.isList p2 h0,Dm.list_tuple p.isList p2 h0⟩
    |lst ys=>
     obtain⟨b,zs,rfl,g1,g2⟩:=K6.mp hy;cases ry;obtain⟨aq,jx,p2,_⟩:=I.list g1
     have l1:its.toArray.size=xs.length:=by rw[Af,<-rv.length,<-h2.length]
     have l2:aq.toArray.size=ys.length:=by rw[Af,<-jx.length,<-g2.length]
     have items:∀j (k1:j<its.toArray.size) (k2:j<aq.toArray.size),Ge A.in1 s its.toArray[j] aq.toArray[j] (kG (xs.getD j .non) (ys.getD j .non)):=λj k1 k2=>by
      have fU:j<xs.length:=by omega
      have gp:j<ys.length:=by omega
      obtain⟨vj,e1,r1⟩:=h2.get (A4 fU);obtain⟨wj,e2,r2⟩:=g2.get (A4 gp);obtain⟨uj,f1,s1⟩:=rv.get e1;obtain⟨tj,f2,s2⟩:=jx.get e2
      have z1:its.toArray[j]=uj:=by
       rw[A4 (by rw[Af]at k1;exact k1)]at f1
       simpa using f1
      have z2:aq.toArray[j]=tj:=by
       rw[A4 (by rw[Af]at k2;exact k2)]at f2
       simpa using f2
      rw[z1,z2,K5 (A4 fU),K5 (A4 gp)];have dd:=wS (A4 fU);have de:=wS (A4 gp);rw[depth]at he;exact(ih A.in1 cJ ⋯ ⋯ ⋯ r1 r2 s1 s2).1
     have fX:Gj A s (.ref a) (.ref b) (kG (.lst xs) (.lst ys))/\Dm A s (.ref a) (.ref b) (!kG (.lst xs) (.lst ys)):=by
      by_cases hl:its.toArray.size=aq.toArray.size
      .have eb:kG (.lst xs) (.lst ys)=((Aa its.toArray.size).all (λj=>kG (xs.getD j .non) (ys.getD j .non))):=by
        rw[kG,DB]
        have:xs.length=ys.length:=by omega
        rw[l1,this,Nat.min_self];simp
       rw[eb];exact⟨Gj.lists p.isList p2.isList hl h0 items,Dm.lists p.isList p2.isList hl h0 items⟩
      .have eb:kG (.lst xs) (.lst ys)=false:=by
        rw[kG,DB]
        have:(xs.length==ys.length)=false:=by simp;omega
        rw[this,Bool.and_false]
       rw[eb];exact⟨Gj.lists_lengths p.isList p2.isList (by simpa using hl) h0,Dm.lists_lengths p.isList p2.isList (by simpa using hl) h0⟩
     refine⟨?_,fX⟩;by_cases bW:a=b
     .subst bW;rw[EN I hx hy,BU];exact Ow _
     .exact Ge.of_refs bW fX.1
end
def jY:Nat:=60
def Va(K:A5):R2:=λx y H Q=>∃d e,depth d<=jY/\depth e<=jY/\e9 K H d x/\e9 K H e y/\Q (.bl (kG d e)) H
def Vf(K:A5):R2:=λx y H Q=>∃d e,depth d<=jY/\depth e<=jY/\e9 K H d x/\e9 K H e y/\Q (.bl (!kG d e)) H
def lY:D->D->Option D:=λx y=>if depth x<=jY/\depth y<=jY then some (.bl (kG x y)) else none
def kZ:D->D->Option D:=λx y=>if depth x<=jY/\depth y<=jY then some (.bl (!kG x y)) else none
section
variable{X:Cx}{a b c:Expr}{fa fb fc:ED}{pos:Hi}
def Uu(hu:X.A.units+64<D8):kO X (De .Eq) (Va X.K):=by
 intro aa s U H x y v u Q I rx ry h;obtain⟨d,e,hd,he,hx,hy,q⟩:=h;have fN:depth e<1000:=Im he (by unfold jY;decide)
 exact(LK I jY X.A (by unfold jY;omega) (by unfold jY;decide) hd fN hx hy rx ry).2.1 X.prog X.w X.xe _ ⟨.bl _,H,I,rfl,q⟩
def ŀ(hu:X.A.units+64<D8):kO X (De .NotEq) (Vf X.K):=by
 intro aa s U H x y v u Q I rx ry h;obtain⟨d,e,hd,he,hx,hy,q⟩:=h;have fN:depth e<1000:=Im he (by unfold jY;decide)
 exact(LK I jY X.A (by unfold jY;omega) (by unfold jY;decide) hd fN hx hy rx ry).2.2 X.prog X.w X.xe _ ⟨.bl _,H,I,rfl,q⟩
def UD{K:A5}:lP K (Va K) lY:=by
 intro x y d e Z H u v Q zs hx hy q;unfold lY at e;split at e
 .rename_i h;cases e;exact⟨x,y,h.1,h.2,hx.mono v4,hy.mono v4,q _ H (J4.refl H) (Q3.mpr rfl)⟩
 .cases e
def Ş{K:A5}:lP K (Vf K) kZ:=by
 intro x y d e Z H u v Q zs hx hy q;unfold kZ at e;split at e
 .rename_i h;cases e;exact⟨x,y,h.1,h.2,hx.mono v4,hy.mono v4,q _ H (J4.refl H) (Q3.mpr rfl)⟩
 .cases e
def xK(hu:X.A.units+64<D8)(ha:ZE X a fa)(hb:ZE X b fb):ZE X (.Compare a [.Eq] [b] pos) (d2 lY fa fb):=
 ⟨have ha:=ha.h;
 have hb:=hb.h;
 UJ (Uu hu) UD ha hb (tH _)⟩
def FC(hu:X.A.units+64<D8)(ha:ZE X a fa)(hb:ZE X b fb):ZT X (.Compare a [.Eq] [b] pos) (u0 (d2 lY fa fb)):=
 ⟨have ha:=ha.h;
 have hb:=hb.h;
 xJ (Uu hu) UD ha hb (tH _)⟩
def mW(hu:X.A.units+64<D8)(ha:ZE X a fa)(hb:ZE X b fb):ZT X (.Compare a [.NotEq] [b] pos) (u0 (d2 kZ fa fb)):=
 ⟨have ha:=ha.h;
 have hb:=hb.h;
 xJ (ŀ hu) Ş ha hb (tH _)⟩
def oA(x:D)(ds:List D):Bool:=ds.any λy=>kG y x
def NB(K:A5)(dq:Bool):R2:=λx y H Q=>∃d ds p xs,lT ds<=jY/\depth d<=jY/\e9 K H d x/\y = .ref p/\(i7 K H p xs\/i8 K H p xs)/\J3 K H ds xs/\Q (.bl (if dq then !oA d ds else oA d ds)) H
open Classical in
noncomputable def nR (ds:List D) (its:List A9) (x:D) (u:A9):Bool:=if ∃(j:Nat) (d:D),its[j]?=some u/\ds[j]?=some d/\kG d x=true then true else false
def KQ(I:a9 X aa U H s){x d:D}{u:A9}{j:Nat}(hr:J3 X.K H ds xs)(rv:Y4 xs its)(h1:its[j]?=some u)(h2:ds[j]?=some d):nR ds its x u=kG d x:=by
 unfold nR
 have uniq:∀(i:Nat) (e:D),its[i]?=some u->ds[i]?=some e->e=d:=λi e g1 g2=>by
  obtain⟨v,e1,r1⟩:=hr.get g2;obtain⟨w',e2,r2⟩:=hr.get h2;obtain⟨u1,f1,s1⟩:=rv.get e1;obtain⟨u2,f2,s2⟩:=rv.get e2;rw[g1]at f1;cases f1;rw[h1]at f2;cases f2
  have:v=w':=s1.inj s2
  subst this;exact EN I r1 r2
 by_cases hb:kG d x=true
 .rw[y6 ⟨j,d,h1,h2,hb⟩,hb]
 .rw[y8 ?_]
  .exact(Bool.eq_false_iff.mpr hb).symm
  .rintro ⟨i,e,g1,g2,g3⟩;rw[uniq i e g1 g2]at g3;exact hb g3
def DX(I:a9 X aa U H s)(hr:J3 X.K H ds xs)(rv:Y4 xs its):its.any (nR ds its x)=oA x ds:=by
 have bn:=hr.length;have fF:=rv.length;rw[Bool.eq_iff_iff];unfold oA;rw[Mc,Mc];constructor
 .rintro ⟨u,hu,e⟩;obtain⟨j,hj,rfl⟩:=Kd.mp hu;have h2:ds[j]?=some ds[j]:=A4 ⋯;rw[KQ I hr rv (A4 hj) h2]at e;exact⟨ds[j],Bv _,e⟩
 .rintro ⟨d,hd,e⟩;obtain⟨j,hj,rfl⟩:=Kd.mp hd;have h1:its[j]?=some its[j]:=A4 ⋯;refine⟨its[j],Bv _,?_⟩;rw[KQ I hr rv h1 (A4 hj)];exact e
def EH(I:a9 X aa U H s)(hu:X.A.units+64<D8)(hr:J3 X.K H ds xs)(rv:Y4 xs its)(hd:lT ds<=jY)(bS:depth x<=jY)(hx:e9 X.K H x xv)(rx:f9 xv v):∀w'∈its.toArray,Ge X.A.in1 s w' v (nR ds its x w'):=λw' hw=>by
 have bn:=hr.length;have fF:=rv.length
 have hw':w'∈its:=by simpa using hw
 obtain⟨j,hj,rfl⟩:=Kd.mp hw';have h2:ds[j]?=some ds[j]:=A4 ⋯;have h1:its[j]?=some its[j]:=A4 hj;rw[KQ I hr rv h1 h2];obtain⟨z,e1,r1⟩:=hr.get h2;obtain⟨u1,f1,s1⟩:=rv.get e1;rw[h1]at f1;cases f1;have dd:=wS h2;exact(LK I jY X.A.in1 (by show X.A.units+1+jY<D8;unfold jY;omega) (by unfold jY;decide) ⋯ (Im bS (by unfold jY;decide)) r1 hx s1 rx).1
def Uv(hu:X.A.units+64<D8):kO X (De .In) (NB X.K false):=by
 intro aa s U H x y v u Q I rx ry h;obtain⟨d,ds,p,xs,hd,bS,hx,rfl,hq,hr,q⟩:=h;cases ry;rcases hq with hq|hq
 .obtain⟨its,rv,pl,_⟩:=I.list hq;refine SeqAt.in_listAt (nR ds its d) pl.isList (EH I hu hr rv hd bS hx rx) ⟨.bl _,H,I,rfl,?_⟩;rw[show its.toArray.any (nR ds its d)=its.any (nR ds its d) by simp,DX I hr rv];exact q
 .obtain⟨its,rv,pl,_⟩:=I.tuple hq;refine SeqAt.in_tupleAt (nR ds its d) pl (EH I hu hr rv hd bS hx rx) ⟨.bl _,H,I,rfl,?_⟩;rw[show its.toArray.any (nR ds its d)=its.any (nR ds its d) by simp,DX I hr rv];exact q
def Yz(hu:X.A.units+64<D8):kO X (De .NotIn) (NB X.K true):=by
 intro aa s U H x y v u Q I rx ry h;obtain⟨d,ds,p,xs,hd,bS,hx,rfl,hq,hr,q⟩:=h;cases ry;rcases hq with hq|hq
 .obtain⟨its,rv,pl,_⟩:=I.list hq;refine SeqAt.notIn_listAt (nR ds its d) pl.isList (EH I hu hr rv hd bS hx rx) ⟨.bl _,H,I,rfl,?_⟩;rw[show its.toArray.any (nR ds its d)=its.any (nR ds its d) by simp,DX I hr rv];exact q
 .obtain⟨its,rv,pl,_⟩:=I.tuple hq;refine SeqAt.notIn_tupleAt (nR ds its d) pl (EH I hu hr rv hd bS hx rx) ⟨.bl _,H,I,rfl,?_⟩;rw[show its.toArray.any (nR ds its d)=its.any (nR ds its d) by simp,DX I hr rv];exact q
def kN(dq:Bool)(fa:ED)(fb:EL):ED:=λY=>match fa Y with
 |some x=>(match fb Y with|some ds=>if lT ds<=jY/\depth x<=jY then some (.bl (if dq then !oA x ds else oA x ds)) else none|none=>none)
 |none=>none
def KR{K:A5}{dq:Bool}{fb:EL}:∀U H Q,tD K (kN dq fa fb) U H Q->yK (NB K dq) (tD K fa) (tQ K fb) U H Q:=
 λU H Q h_=>by
  refine f7 h_ λY d B H0 V0 Z e r q=>?_;unfold kN at e;split at e
  .rename_i x ex;split at e
   .rename_i ds ey;split at e
    .rename_i hd;cases e
     exact⟨Y,x,B,H0,V0,Z,ex,r,λu H1 s1 r1=>⟨Y,ds,B,H0,V0,Z,ey,r.mono s1,λp xs H2 s2 hq r2=>
      ⟨x,ds,p,xs,hd.1,hd.2,(r1.mono (x9 s2)).mono v4,rfl,hq.imp id (j9 v4),r2.mono v4,q _ H2 (s1.trans s2) (Q3.mpr rfl)⟩⟩⟩
    .cases e
   .cases e
  .cases e
def v1E{fb:EL}(hu:X.A.units+64<D8)(ha:SE X a fa)(hb:SQ X b fb)(hm:Dj .In b=false:=by with_unfolding_all rfl):SE X (.Compare a [.In] [b] pos) (kN false fa fb):=j6 (RI (Uv hu) ha hb hm) KR
def TZ{fb:EL}(hu:X.A.units+64<D8)(ha:SE X a fa)(hb:SQ X b fb)(hm:Dj .In b=false:=by with_unfolding_all rfl):vZ X (.Compare a [.In] [b] pos) (u0 (kN false fa fb)):=qB (IL (Uv hu) ha hb hm) λU H Q h=>KR _ _ _ (tY U H Q h)
def UL{fb:EL}(hu:X.A.units+64<D8)(ha:SE X a fa)(hb:SQ X b fb)(hm:Dj .NotIn b=false:=by with_unfolding_all rfl):vZ X (.Compare a [.NotIn] [b] pos) (u0 (kN true fa fb)):=qB (IL (Yz hu) ha hb hm) λU H Q h=>KR _ _ _ (tY U H Q h)
theorem ϻ{K:A5}{H:Hp}{ds:List D}{xs:List V}{i:Int}{d:D}(h:J3 K H ds xs)(e:lL ds i=some d):∃v,lL xs i=some v/\e9 K H d v:=by
 unfold lL at e ⊢;rw[<-h.length]
 cases hi:qO ds.length i with
 |none=>rw[hi]at e;cases e
 |some j=>rw[hi]at e;exact h.get e
def i3(fa:EL)(fb:ED):ED:=λY=>match fa Y with|some ds=>(match fb Y with|some (.int i)=>lL ds i|_=>none)|none=>none
def v1D{fa:EL}(ha:SQ X a fa)(hb:SE X b fb)(hs:DW b:=by exact λ_ _=>rfl):SE X (.Subscript a b pos) (i3 fa fb):=
 j6 (TK v0D ha hb hs) λU H Q h_=>by
  refine f7 h_ λY d B H0 V0 Z e r q=>?_;unfold i3 at e;split at e
  .rename_i ds aF;split at e
   .rename_i i ei;refine⟨Y,ds,B,H0,V0,Z,aF,r,λp xs H1 s1 hq r1=>⟨Y,_,B,H0,V0,Z,ei,r.mono s1,λu H2 s2 r2=>?_⟩⟩
    obtain rfl:=v7.mp r2
    obtain⟨v,hv,rv⟩:=ϻ (r1.mono (x9 s2)) e;have fin:=q v H2 (s1.trans s2) rv;rcases hq with hq|hq
    .exact .inl ⟨p,xs,i,v,rfl,rfl,s2.seq hq,hv,fin⟩
    .exact .inr (.inl ⟨p,xs,i,v,rfl,rfl,j9 s2 (j9 v4 hq),hv,fin⟩)
   .cases e
  .cases e
def tO(K:A5)(f:J5->Option (Option Int)):TO:=λU H Q=>∃Y o B H0 V0 Z,f Y=some o/\SR K B H0 V0 H Z U Y/\∀H',J4 H H'->Q o H'
abbrev SO(X:Cx)(e:Option Expr)(f:J5->Option (Option Int)):Prop:=PO X e (tO X.K f)
structure ZO(X:Cx)(e:Option Expr)(f:J5->Option (Option Int)):Prop where
 h:SO X e f
def nE:J5->Option (Option Int):=λ_=>some none
def mH(f:ED):J5->Option (Option Int):=λY=>match f Y with|some (.int i)=>some (some i)|_=>none
def vB:ZO X none nE:=
 ⟨λaa s U H Q I h_=>by
 refine f7 h_ λY o B H0 V0 Z e r q=>?_;cases e
 exact Ñ aa s U H Q I (q H (J4.refl H))⟩
def vC(h:ZE X a f):ZO X (some a) (mH f):=
 ⟨have h:=h.h;
 λaa s U H Q I h_=>by
 refine f7 h_ λY o B H0 V0 Z e r q=>?_;refine Ò h aa s U H Q I ?_;unfold mH at e;split at e
 .rename_i i ei;cases e;exact⟨Y,_,B,H0,V0,Z,ei,r,λv H' s rr=>⟨i,v7.mp rr,q H' s⟩⟩
 .cases e⟩
def rV{α:Type}(xs:List α)(lo hi:Option Int):List α:=(xs.drop (HT.sIx xs.length 0 lo)).take (HT.sIx xs.length xs.length hi-HT.sIx xs.length 0 lo)
def Te{K:A5}{H:Hp}{ds:List D}{xs:List V}(lo hi:Option Int)(h:J3 K H ds xs):J3 K H (rV ds lo hi) (rM xs lo hi):=by unfold rV rM;rw[h.length];exact(h.drop _).take _
def GB:D->Option Int->Option Int->Option D:=λx lo hi=>match x with
 | .tup ds=>if HT.sIx ds.length 0 lo=0/\HT.sIx ds.length ds.length hi=ds.length then none else some (.tup (rV ds lo hi))
 | .lst ds=>some (.lst (rV ds lo hi))
 |_=>none
def l5(f:ED)(fl fh:J5->Option (Option Int)):ED:=λY=>match f Y with
 |some x=>(match fl Y with|some lo=>(match fh Y with|some hi=>GB x lo hi|none=>none)|none=>none)
 |none=>none
def TY{lo hi:Option Expr}{p2:Hi}{fl fh:J5->Option (Option Int)}(he:SE X a fa)(hl:SO X lo fl)(hh:SO X hi fh):SE X (.Subscript a (.Slice lo hi none p2) pos) (l5 fa fl fh):=
 j6 (S7 (Ũ.or î) he hl hh) λU H Q h_=>by
  refine f7 h_ λY d B H0 V0 Z e r q=>?_;unfold l5 at e;split at e
  .rename_i x ex;split at e
   .rename_i l el;split at e
    .rename_i h eh;refine⟨Y,x,B,H0,V0,Z,ex,r,λu H1 s1 r1=>⟨Y,l,B,H0,V0,Z,el,r.mono s1,λH2 s2=>⟨Y,h,B,H0,V0,Z,eh,(r.mono s1).mono s2,λH3 s3=>?_⟩⟩⟩;have R3:=((r.mono s1).mono s2).mono s3;have rx:=r1.mono (x9 (s2.trans s3));unfold GB at e;split at e
     .rename_i ds;split at e
      .cases e
      .rename_i hw;cases e;obtain⟨p,xs,rfl,h1,h2⟩:=j5.mp rx;refine .inl ⟨p,xs,rfl,j9 v4 h1,by rw[<-h2.length];exact hw,λn hn=>?_⟩
       have sn:=u9 (o:=HO.tup (rM xs l h)) hn;refine q _ _ (s1.trans (s2.trans (s3.trans sn))) (j5.mpr ⟨n,_,rfl,i8.of ?_,(Te l h h2).mono (x9 sn)⟩);rw[K8 (R3.newer hn)];exact w6
     .rename_i ds;cases e;obtain⟨p,xs,rfl,h1,h2⟩:=K6.mp rx;refine .inr ⟨p,xs,rfl,v4.seq h1,λn hn=>?_⟩;have sn:=u9 (o:=HO.lst (rM xs l h)) hn;refine q _ _ (s1.trans (s2.trans (s3.trans sn))) (K6.mpr ⟨n,_,rfl,i7.of ?_,(Te l h h2).mono (x9 sn)⟩);rw[K8 (R3.newer hn)];exact w6
     .cases e
    .cases e
   .cases e
  .cases e
def kE(f:EL):ED:=λY=>(f Y).map λds=>D.int ds.length
def nY{p:Hi}(hm:X.mg "len" = none)(h:ZQ X a f)(hg:Gl X "len":=by rfl)(he:J0 a=true:=by rfl):ZE X (.Call (.Name "len" p) [a] [] pos) (kE f):=
 ⟨have h:=h.h;
 j6 (tW Wl hg hm PySem.boot_len (J7 h Y5 (w9 he)) ∅ ∅ (w9 he) (K7 rfl)) λU H Q h_=>by
  refine f7 h_ λY d B H0 V0 Z e r q=>?_;unfold kE at e;obtain⟨ds,aF,rfl⟩:=B5.mp e
  exact⟨Y,ds,B,H0,V0,Z,aF,r,λp xs H' s hq rr=>⟨p,xs,rfl,hq.imp id (j9 v4),q _ H' s (by rw[<-rr.length];exact v7.mpr rfl)⟩⟩⟩
def lR(f:EL):ED:=λY=>(f Y).map D.tup
def W2{p:Hi}(hm:X.mg "tuple" = none)(h:ZQ X a f)(hg:Gl X "tuple":=by rfl)(he:J0 a=true:=by rfl):ZE X (.Call (.Name "tuple" p) [a] [] pos) (lR f):=
 ⟨have h:=h.h;
 j6 (oN OG hg hm ‹_› (J7 h Y5 (w9 he)) ∅ ∅ (w9 he) (K7 rfl)) λU H Q h_=>by
  refine f7 h_ λY d B H0 V0 Z e r q=>?_;unfold lR at e;obtain⟨ds,aF,rfl⟩:=B5.mp e;refine⟨Y,ds,B,H0,V0,Z,aF,r,λp xs H' s hq rr=>⟨p,xs,rfl,?_⟩⟩;rcases hq with hq|hq
  .refine .inl ⟨hq,λl hl=>?_⟩;have sn:=u9 (o:=HO.tup xs) hl;refine q _ _ (s.trans sn) (j5.mpr ⟨l,xs,rfl,i8.of ?_,rr.mono (x9 sn)⟩);rw[K8 ((r.mono s).newer hl)];exact w6
  .exact .inr ⟨j9 v4 hq,q _ H' s (j5.mpr ⟨p,xs,rfl,hq,rr⟩)⟩⟩
end
end L3
namespace L3
open PySem PySem.W PyProof.Rows
def jT{α:Type}(lt:Nat->Nat->Bool):Oy α->α
 | .ret a=>a
 | .ask i j k=>jT lt (k (lt i j))
theorem sF{α β:Type}(lt:Nat->Nat->Bool)(f:α->Oy β):∀t:Oy α,jT lt (t.bind f)=jT lt (f (jT lt t))
 | .ret _=>rfl
 | .ask i j k=>sF lt f (k (lt i j))
structure mT(lt:Nat->Nat->Bool):Prop where
 asym:∀i j,lt i j=true->lt j i=false
 tr:∀i j k,lt j i=false->lt k j=false->lt k i=false
def gt(p:Array Nat)(i:Nat):Nat:=p.getD i 0
def xT{p q:Array Nat}{i j:Nat}(h:p[i]?=q[j]?):gt p i=gt q j:=by unfold gt;rw[He,He,h]
def Up(lt:Nat->Nat->Bool)(p:Array Nat)(b:Nat):Prop:=∀i j,i<=j->j<b->lt (gt p j) (gt p i)=false
def Dn(lt:Nat->Nat->Bool)(p:Array Nat)(b:Nat):Prop:=∀i j,i<=j->j<b->lt (gt p i) (gt p j)=false
def Al(lt:Nat->Nat->Bool)(p:Array Nat)(a b:Nat):Prop:=∀i j,a<=i->i<b->a<=j->j<b->lt (gt p i) (gt p j)=false
section
variable{lt:Nat->Nat->Bool}(O:mT lt)
theorem mT.irr(O:mT lt)(i:Nat):lt i i=false:=by
 cases h:lt i i with
 |false=>rfl
 |true=>rw[O.asym i i h]at h;cases h
def tK{p:Array Nat}{i j:Nat}(hj:j<=p.size)(bD:i<=j)(k:Nat):gt (Fo p i j) k=if i<=k/\k<j then gt p (i+j-1-k) else gt p k:=by
 unfold Fo;have e:=getElem?_mirror (xs:=p) (i:=i) hj ((j-i) / 2) ⋯ k;by_cases h:i<=k/\k<j
 .rw[y6 h];by_cases h2:(i<=k/\k<i+(j-i) / 2)\/(j-(j-i) / 2<=k/\k<j)
  .rw[y6 h2]at e;exact xT e
  .rw[y8 h2]at e
   have:i+j-1-k=k:=by omega
   rw[this];exact xT e
 .rw[y8 h];rw[y8 ⋯]at e;exact xT e
def uZ(p:Array Nat)(i j:Nat):(Fo p i j).size=p.size:=mirror_size _ _ _ _
def sA(p:Array Nat)(i j:Nat):(Fo p i j).Perm p:=mirror_perm _ _ _ _
include O
theorem MK:∀(f n:Nat),1<=n->Up lt p n->n<=jT lt (Jy p f n)/\jT lt (Jy p f n)<=n+f/\Up lt p (jT lt (Jy p f n)) /\
  (jT lt (Jy p f n)<n+f->lt (gt p (jT lt (Jy p f n))) (gt p (jT lt (Jy p f n)-1))=true)
 | 0,n,h1,h=>⟨Ad _,Ad _,h,λz=>u3 z (Di _)⟩
 |f+1,n,h1,h=>by
  have e:jT lt (Jy p (f+1) n)=jT lt (if lt (gt p n) (gt p (n-1))=true then Oy.ret n else Jy p f (n+1)):=rfl;rw[e]
  cases hc:lt (gt p n) (gt p (n-1)) with
  |true=>rw[y6 rfl];exact⟨Ad _,Md _ _,h,λ_=>hc⟩
  |false=>
   rw[y8 Ay]
   have h':Up lt p (n+1):=λi j bD hj=>by
    by_cases da:j<n
    .exact h i j bD da
    .have:j=n:=by omega
     subst this;by_cases hi:i=j
     .subst hi;exact O.irr _
     .exact O.tr _ _ _ (h i (j-1) ⋯ ⋯) hc
   obtain⟨a1,a2,a3,a4⟩:=MK f (n+1) ⋯ h';exact⟨⋯,⋯,a3,λz=>a4 ⋯⟩
theorem UG{p:Array Nat}{n q:Nat}(hz:n<=p.size)(hq:q+1<=n)(hd:Dn lt p n)(ha:Al lt p (n-(q+1)) n):Dn lt (Fo p (n-(q+1)) n) n:=λi j bD hj=>by
 rw[tK hz ⋯,tK hz ⋯];by_cases h1:n-(q+1)<=i/\i<n
 .have h2:n-(q+1)<=j/\j<n:=by omega
  rw[y6 h1,y6 h2];exact ha _ _ ⋯ ⋯ ⋯ ⋯
 .rw[y8 h1];by_cases h2:n-(q+1)<=j/\j<n
  .rw[y6 h2];exact hd _ _ ⋯ ⋯
  .rw[y8 h2];exact hd _ _ bD hj
theorem EE:∀(f:Nat) (p:Array Nat) (n q:Nat),n+f<=p.size->q+1<=n->Dn lt p n->Al lt p (n-(q+1)) n ->
  ∃p' m q',jT lt (Fz f p n q)=(p',m,q')/\p'.size=p.size/\p'.Perm p/\n<=m/\m<=n+f/\q'+1<=m/\Dn lt p' m/\Al lt p' (m-(q'+1)) m
 | 0,p,n,q,hz,hq,hd,ha=>⟨p,n,q,rfl,rfl,Fv _,Ad _,Ad _,hq,hd,ha⟩
 |f+1,p,n,q,hz,hq,hd,ha=>by
  have e:jT lt (Fz (f+1) p n q)=jT lt (if lt (gt p n) (gt p (n-1))=true then (if q>0 then Fz f (Fo p (n-(q+1)) n) (n+1) 0 else Fz f p (n+1) 0)
   else .ask (p.getD (n-1) 0) (p.getD n 0) λd=>if d=true then .ret (p,n,q) else Fz f p (n+1) (q+1)):=rfl
  rw[e]
  cases hc:lt (gt p n) (gt p (n-1)) with
  |true=>
   rw[y6 rfl];have less:∀i,i<n->lt (gt p i) (gt p n)=false:=λi hi=>O.tr _ _ _ (O.asym _ _ hc) (hd i (n-1) ⋯ ⋯);by_cases h0:q>0
   .rw[y6 h0];have bS:=UG O ⋯ hq hd ha
    have bw:Dn lt (Fo p (n-(q+1)) n) (n+1):=λi j bD hj=>by
     by_cases da:j<n
     .exact bS i j bD da
     .have:j=n:=by omega
      subst this;by_cases hi:i=j
      .subst hi;exact O.irr _
      .rw[tK ⋯ ⋯,tK ⋯ ⋯,y8 (by omega:¬(j-(q+1)<=j/\j<j))];split
       .exact less _ ⋯
       .exact less _ ⋯
    obtain⟨p',m,q',e1,e2,e3,e4,e5,e6,e7,e8⟩:=EE f (Fo p (n-(q+1)) n) (n+1) 0 (by rw[uZ];omega) ⋯ bw (λi j h1 h2 h3 h4=>by
     have:i=j:=by omega
     subst this;exact O.irr _)
    exact⟨p',m,q',e1,by rw[e2,uZ],e3.trans (sA _ _ _),⋯,⋯,e6,e7,e8⟩
   .rw[y8 h0]
    have bw:Dn lt p (n+1):=λi j bD hj=>by
     by_cases da:j<n
     .exact hd i j bD da
     .have:j=n:=by omega
      subst this;by_cases hi:i=j
      .subst hi;exact O.irr _
      .exact less i ⋯
    obtain⟨p',m,q',e1,e2,e3,e4,e5,e6,e7,e8⟩:=EE f p (n+1) 0 ⋯ ⋯ bw (λi j h1 h2 h3 h4=>by
     have:i=j:=by omega
     subst this;exact O.irr _)
    exact⟨p',m,q',e1,e2,e3,⋯,⋯,e6,e7,e8⟩
  |false=>
   rw[y8 Ay];have e':jT lt (Ny (p.getD (n-1) 0) (p.getD n 0) λd=>if d=true then .ret (p,n,q) else Fz f p (n+1) (q+1))=jT lt (if lt (gt p (n-1)) (gt p n)=true then .ret (p,n,q) else Fz f p (n+1) (q+1)):=rfl;rw[e']
   cases aY:lt (gt p (n-1)) (gt p n) with
   |true=>rw[y6 rfl];exact⟨p,n,q,rfl,rfl,Fv _,Ad _,⋯,hq,hd,ha⟩
   |false=>
    rw[y8 Ay]
    have bw:Dn lt p (n+1):=λi j bD hj=>by
     by_cases da:j<n
     .exact hd i j bD da
     .have:j=n:=by omega
      subst this;by_cases hi:i=j
      .subst hi;exact O.irr _
      .exact O.tr _ _ _ aY (hd i (j-1) ⋯ ⋯)
    have ha2:Al lt p (n+1-(q+1+1)) (n+1):=λi j h1 h2 h3 h4=>by
     have iG:∀i,n-(q+1)<=i->i<n->lt (gt p i) (gt p n)=false:=λi g1 g2=>O.tr _ _ _ aY (ha i (n-1) g1 g2 ⋯ ⋯);have iF:∀i,n-(q+1)<=i->i<n->lt (gt p n) (gt p i)=false:=λi g1 g2=>O.tr _ _ _ (ha (n-1) i ⋯ ⋯ g1 g2) hc;by_cases hi:i<n
     .by_cases hj:j<n
      .exact ha i j ⋯ hi ⋯ hj
      .have:j=n:=by omega
       subst this;exact iG i ⋯ hi
     .have:i=n:=by omega
      subst this;by_cases hj:j<i
      .exact iF j ⋯ hj
      .have:j=i:=by omega
       subst this;exact O.irr _
    obtain⟨p',m,q',e1,e2,e3,e4,e5,e6,e7,e8⟩:=EE f p (n+1) (q+1) ⋯ ⋯ bw ha2;exact⟨p',m,q',e1,e2,e3,⋯,⋯,e6,e7,e8⟩
theorem ş{p:Array Nat}{n:Nat}(hz:n<=p.size)(hd:Dn lt p n):Up lt (Fo p 0 n) n:=λi j bD hj=>by rw[tK hz ⋯,tK hz ⋯,y6 ⋯,y6 ⋯];exact hd _ _ ⋯ ⋯
theorem RZ{p:Array Nat}{n nrem:Nat}(hn:n<=nrem)(h1:1<=n)(hz:nrem<=p.size)(hd:Dn lt p n):
  ∃m p',jT lt (N8 n nrem p)=(m,p')/\p'.size=p.size/\p'.Perm p/\1<=m/\m<=nrem/\Up lt p' m:=by
 unfold N8;rw[sF];obtain⟨a1,a2,a3,_⟩:=MK O (nrem-n) n h1 (ş O ⋯ hd);exact⟨_,_,rfl,uZ _ _ _,sA _ _ _,⋯,⋯,a3⟩
theorem QK{p:Array Nat}{n nrem:Nat}(hn:n+1<=nrem)(hz:nrem<=p.size)(hd:Dn lt p (n+1)):
  ∃m p',jT lt (G0 n nrem p)=(m,p')/\p'.size=p.size/\p'.Perm p/\1<=m/\m<=nrem/\Up lt p' m:=by
 unfold G0;rw[sF]
 obtain⟨p',m,q',e1,e2,e3,e4,e5,e6,e7,e8⟩:=EE O (nrem-(n+1)) p (n+1) 0 ⋯ ⋯ hd (λi j h1 h2 h3 h4=>by
  have:i=j:=by omega
  subst this;exact O.irr _)
 rw[e1];right;by_cases hq:q'>0
 .rw[y6 hq];obtain⟨m2,p2,t1,t2,t3,t4,t5,t6⟩:=RZ O (p:=Fo p' (m-(q'+1)) m) (n:=m) (nrem:=nrem) ⋯ ⋯ (by rw[uZ];omega) (UG O ⋯ e6 e7 e8)
  exact⟨m2,p2,t1,by rw[t2,uZ,e2],t3.trans ((sA _ _ _).trans e3),t4,t5,t6⟩
 .rw[y8 hq];obtain⟨m2,p2,t1,t2,t3,t4,t5,t6⟩:=RZ O (p:=p') (n:=m) (nrem:=nrem) ⋯ ⋯ ⋯ e7;exact⟨m2,p2,t1,by rw[t2,e2],t3.trans e3,t4,t5,t6⟩
theorem ϐ{p:Array Nat}{nrem:Nat}(h1:1<=nrem)(hz:nrem<=p.size):
  ∃m p',jT lt (N9 nrem p)=(m,p')/\p'.size=p.size/\p'.Perm p/\1<=m/\m<=nrem/\Up lt p' m:=by
 unfold N9;rw[sF]
 obtain⟨a1,a2,a3,a4⟩:=MK O (p:=p) (nrem-1) 1 (Ad _) (λi j bD hj=>by
  have:i=j:=by omega
  subst this;exact O.irr _)
 generalize jT lt (Jy p (nrem-1) 1)=n at a1 a2 a3 a4;by_cases e1:(n==nrem)=true
 .rw[y6 e1];exact⟨n,p,rfl,rfl,Fv _,a1,⋯,a3⟩
 .rw[y8 e1];have am:n≠nrem:=λq=>e1 (by rw[q];exact beq_self_eq_true _)
  have ak:=a4 ⋯;by_cases e2:n>1
  .rw[y6 e2];have e':jT lt (Ny (p.getD 0 0) (p.getD (n-1) 0) λc=>if c=true then .ret (n,p) else G0 n nrem (Fo p 0 n))=jT lt (if lt (gt p 0) (gt p (n-1))=true then .ret (n,p) else G0 n nrem (Fo p 0 n)):=rfl;rw[e']
   cases hc:lt (gt p 0) (gt p (n-1)) with
   |true=>rw[y6 rfl];exact⟨n,p,rfl,rfl,Fv _,a1,⋯,a3⟩
   |false=>
    rw[y8 Ay]
    have all:∀i j,i<n->j<n->lt (gt p i) (gt p j)=false:=λi j hi hj=>O.tr _ _ _ (O.tr _ _ _ (a3 j (n-1) ⋯ ⋯) hc) (a3 0 i ⋯ hi)
    obtain⟨m2,p2,t1,t2,t3,t4,t5,t6⟩:=QK O (p:=Fo p 0 n) (n:=n) (nrem:=nrem) ⋯ (by rw[uZ];exact hz) (λi j bD hj=>by
     rw[tK ⋯ ⋯,tK ⋯ ⋯];by_cases da:j<n
     .rw[y6 ⋯,y6 ⋯];exact all _ _ ⋯ ⋯
     .have:j=n:=by omega
      subst this;rw[y8 (by omega:¬(0<=j/\j<j))];by_cases hi:i<j
      .rw[y6 ⋯];exact O.tr _ _ _ (O.asym _ _ ak) (all _ _ ⋯ ⋯)
      .rw[y8 ⋯]
       have:i=j:=by omega
       subst this;exact O.irr _)
    exact⟨m2,p2,t1,by rw[t2,uZ],t3.trans (sA _ _ _),t4,t5,t6⟩
  .rw[y8 e2]
   have:n=1:=by omega
   subst this
   obtain⟨m2,p2,t1,t2,t3,t4,t5,t6⟩:=QK O (p:=p) (n:=1) (nrem:=nrem) ⋯ hz (λi j bD hj=>by
    by_cases gv:i=j
    .subst gv;exact O.irr _
    .have hi:i=0:=by omega
     have cQ:j=1:=by omega
     subst hi cQ
     exact O.asym _ _ ak)
   exact⟨m2,p2,t1,t2,t3,t4,t5,t6⟩
theorem JK(hu:Up lt p k):∀(f l r:Nat),r-l<=f->l<=r->r<=k->(∀i,i<l->lt (gt p k) (gt p i)=false)->(∀i,r<=i->i<k->lt (gt p i) (gt p k)=false) ->
  jT lt (Fw p k f l r)<=k/\(∀i,i<jT lt (Fw p k f l r)->lt (gt p k) (gt p i)=false)/\(∀i,jT lt (Fw p k f l r)<=i->i<k->lt (gt p i) (gt p k)=false)
 | 0,l,r,hf,hlr,hr,h1,h2=>⟨show l<=k by omega,h1,λi (g1:l<=i) g2=>h2 i ⋯ g2⟩
 |f+1,l,r,hf,hlr,hr,h1,h2=>by
  have e:jT lt (Fw p k (f+1) l r)=jT lt (if l>=r then .ret l else .ask (p.getD k 0) (p.getD ((l+r) / 2) 0) λc=>if c=true then Fw p k f l ((l+r) / 2) else Fw p k f ((l+r) / 2+1) r):=rfl;rw[e];by_cases gA:l>=r
  .rw[y6 gA];exact⟨show l<=k by omega,h1,λi (g1:l<=i) g2=>h2 i ⋯ g2⟩
  .rw[y8 gA]
   have e':jT lt (Ny (p.getD k 0) (p.getD ((l+r) / 2) 0) λc=>if c=true then Fw p k f l ((l+r) / 2) else Fw p k f ((l+r) / 2+1) r) =
    jT lt (if lt (gt p k) (gt p ((l+r) / 2))=true then Fw p k f l ((l+r) / 2) else Fw p k f ((l+r) / 2+1) r):=rfl
   rw[e']
   cases hc:lt (gt p k) (gt p ((l+r) / 2)) with
   |true=>rw[y6 rfl];exact JK hu f l ((l+r) / 2) ⋯ ⋯ ⋯ h1 λi g1 g2=>O.tr _ _ _ (O.asym _ _ hc) (hu _ i g1 g2)
   |false=>rw[y8 Ay];exact JK hu f ((l+r) / 2+1) r ⋯ ⋯ hr (λi g1=>O.tr _ _ _ (hu i _ ⋯ ⋯) hc) h2
theorem T4:∀(f:Nat) (p:Array Nat) (k:Nat),k+f<=p.size->Up lt p k->∃p',jT lt (kas_bin f p k)=p'/\p'.size=p.size/\p'.Perm p/\Up lt p' (k+f)
 | 0,p,k,_,hu=>⟨p,rfl,rfl,Fv _,hu⟩
 |f+1,p,k,hz,hu=>by
  have e:jT lt (kas_bin (f+1) p k)=jT lt ((Fw p k k 0 k).bind λl=>kas_bin f (bubble p k (k-l)) (k+1)):=rfl;rw[e,sF];obtain⟨b1,b2,b3⟩:=JK O hu k 0 k ⋯ ⋯ (Ad _) (λi g=>⋯) (λi g1 g2=>⋯);generalize jT lt (Fw p k k 0 k)=l at b1 b2 b3
  have bg:∀x,gt (bubble p k (k-l)) x=if x=l then gt p k else if l<x/\x<=k then gt p (x-1) else gt p x:=λx=>by
   have e:=getElem?_bubble (xs:=p) (src:=k) ⋯ (k-l) ⋯ x
   have ek:k-(k-l)=l:=by omega
   rw[ek]at e;by_cases g1:x=l
   .rw[y6 g1]at e ⊢;exact xT e
   .rw[y8 g1]at e ⊢;by_cases g2:l<x/\x<=k
    .rw[y6 g2]at e ⊢;exact xT e
    .rw[y8 g2]at e ⊢;exact xT e
  have hu':Up lt (bubble p k (k-l)) (k+1):=λi j bD hj=>by
   by_cases gv:i=j
   .subst gv;exact O.irr _
   rw[bg,bg];by_cases fj:j=l
   .rw[y6 fj,y8 (by omega:¬i=l),y8 (by omega:¬(l<i/\i<=k))];exact b2 i ⋯
   .rw[y8 fj];by_cases gm:l<j/\j<=k
    .rw[y6 gm];by_cases bA:i=l
     .rw[y6 bA];exact b3 _ ⋯ ⋯
     .rw[y8 bA];by_cases df:l<i/\i<=k
      .rw[y6 df];exact hu _ _ ⋯ ⋯
      .rw[y8 df];exact hu _ _ ⋯ ⋯
    .rw[y8 gm,y8 (by omega:¬i=l),y8 (by omega:¬(l<i/\i<=k))];exact hu _ _ bD ⋯
  obtain⟨p',e1,e2,e3,e4⟩:=T4 f (bubble p k (k-l)) (k+1) (by rw[bubble_size];omega) hu'
  exact⟨p',e1,by rw[e2,bubble_size],e3.trans (bubble_perm _ _ _),by rw[show k+(f+1)=k+1+f by omega];exact e4⟩
theorem RU{n:Nat}(hn:1<=n):∃p,jT lt (kas_sort n)=p/\p.size=n/\p.Perm (Bw (Aa n))/\Up lt p n:=by
 unfold kas_sort;rw[sF]
 have hz:(Bw (Aa n)).size=n:=by simp
 obtain⟨m,p',e1,e2,e3,e4,e5,e6⟩:=ϐ O (p:=Bw (Aa n)) (nrem:=n) hn (by rw[hz];exact Ad _)
 rw[e1];right;by_cases h:m<n
 .rw[y6 h]
  have em:max m 1=m:=by omega
  rw[em];obtain⟨p2,t1,t2,t3,t4⟩:=T4 O (n-m) p' m ⋯ e6;exact⟨p2,t1,by rw[t2,e2,hz],t3.trans e3,by rw[show n=m+(n-m) by omega];exact t4⟩
 .rw[y8 h]
  have em:m=n:=by omega
  subst em;exact⟨p',rfl,by rw[e2,hz],e3,e6⟩
end
def mR{α:Type}(lt:Nat->Nat->Bool)(n:Nat):Oy α->Prop
 | .ret _=>True
 | .ask i j k=>i<n/\j<n/\mR lt n (k (lt i j))
def mN(n:Nat)(p:Array Nat):Prop:=0<n/\∀x,x∈p->x<n
section
variable{lt:Nat->Nat->Bool}{n:Nat}
theorem wQ{α β:Type}{f:α->Oy β}:∀{t:Oy α},mR lt n t->mR lt n (f (jT lt t))->mR lt n (t.bind f)
 | .ret _,_,h=>h
 | .ask i j k,⟨h1,h2,h3⟩,h=>⟨h1,h2,wQ (t:=k (lt i j)) h3 h⟩
theorem mN.gt{p:Array Nat}(h:mN n p)(i:Nat):p.getD i 0<n:=by
 rw[He]
 cases e:p[i]? with
 |none=>exact h.1
 |some x=>exact h.2 x (Array.mem_of_getElem? e)
def mN.perm{p q:Array Nat}(h:mN n p)(e:q.Perm p):mN n q:=⟨h.1,λx hx=>h.2 x (e.mem_iff.mp hx)⟩
theorem yS{α:Type}{c:Bool}{t u:Oy α}(h1:mR lt n t)(h2:mR lt n u):mR lt n (if c=true then t else u):=by
 cases c with
 |true=>rw[y6 rfl];exact h1
 |false=>rw[y8 Ay];exact h2
def wR{α:Type}{c:Prop}[Decidable c]{t u:Oy α}(h1:mR lt n t)(h2:mR lt n u):mR lt n (if c then t else u):=by
 split
 .exact h1
 .exact h2
theorem MJ{p:Array Nat}(h:mN n p):∀f m,mR lt n (Jy p f m)
 | 0,_=>trivial
 |f+1,m=>⟨h.gt _,h.gt _,yS trivial (MJ h f (m+1))⟩
theorem uQ:∀(f:Nat) (p:Array Nat) (m q:Nat),mN n p->mR lt n (Fz f p m q)/\mN n (jT lt (Fz f p m q)).1
 | 0,p,_,_,h=>⟨trivial,h⟩
 |f+1,p,m,q,h=>by
  have hr:mN n (Fo p (m-(q+1)) m):=h.perm (sA _ _ _)
  have e:jT lt (Fz (f+1) p m q)=jT lt (if lt (p.getD m 0) (p.getD (m-1) 0)=true then (if q>0 then Fz f (Fo p (m-(q+1)) m) (m+1) 0 else Fz f p (m+1) 0)
   else .ask (p.getD (m-1) 0) (p.getD m 0) λd=>if d=true then .ret (p,m,q) else Fz f p (m+1) (q+1)):=rfl
  refine⟨⟨h.gt _,h.gt _,yS (wR (uQ f _ _ _ hr).1 (uQ f _ _ _ h).1) ⟨h.gt _,h.gt _,yS trivial (uQ f _ _ _ h).1⟩⟩,?_⟩;rw[e]
  cases lt (p.getD m 0) (p.getD (m-1) 0) with
  |true=>
   rw[y6 rfl];split
   .exact(uQ f _ _ _ hr).2
   .exact(uQ f _ _ _ h).2
  |false=>
   rw[y8 Ay];have e':jT lt (Ny (p.getD (m-1) 0) (p.getD m 0) λd=>if d=true then .ret (p,m,q) else Fz f p (m+1) (q+1))=jT lt (if lt (p.getD (m-1) 0) (p.getD m 0)=true then .ret (p,m,q) else Fz f p (m+1) (q+1)):=rfl;rw[e']
   cases lt (p.getD (m-1) 0) (p.getD m 0) with
   |true=>rw[y6 rfl];exact h
   |false=>rw[y8 Ay];exact(uQ f _ _ _ h).2
def EQ{p:Array Nat}{a b:Nat}(h:mN n p):mR lt n (N8 a b p)/\mN n (jT lt (N8 a b p)).2:=by have hr:mN n (Fo p 0 a):=h.perm (sA _ _ _);refine⟨wQ (MJ hr _ _) trivial,?_⟩;unfold N8;rw[sF];exact hr
def DM{p:Array Nat}{a b:Nat}(h:mN n p):mR lt n (G0 a b p)/\mN n (jT lt (G0 a b p)).2:=by
 obtain⟨d1,d2⟩:=uQ (lt:=lt) (b-(a+1)) p (a+1) 0 h;unfold G0;rw[sF];refine⟨wQ d1 ?_,?_⟩
 .exact wR (EQ (d2.perm (sA _ _ _))).1 (EQ d2).1
 .split
  .exact(EQ (d2.perm (sA _ _ _))).2
  .exact(EQ d2).2
def Ϗ{p:Array Nat}{b:Nat}(h:mN n p):mR lt n (N9 b p)/\mN n (jT lt (N9 b p)).2:=by
 have hr:∀m,mN n (Fo p 0 m):=λm=>h.perm (sA _ _ _);unfold N9;rw[sF];generalize hm:jT lt (Jy p (b-1) 1)=m;refine⟨wQ (MJ h _ _) ?_,?_⟩
 .rw[hm];exact wR trivial (wR ⟨h.gt _,h.gt _,yS trivial (DM (hr m)).1⟩ (DM h).1)
 .split
  .exact h
  .split
   .have e':jT lt (Ny (p.getD 0 0) (p.getD (m-1) 0) λc=>if c=true then .ret (m,p) else G0 m b (Fo p 0 m))=jT lt (if lt (p.getD 0 0) (p.getD (m-1) 0)=true then .ret (m,p) else G0 m b (Fo p 0 m)):=rfl;rw[e']
    cases lt (p.getD 0 0) (p.getD (m-1) 0) with
    |true=>rw[y6 rfl];exact h
    |false=>rw[y8 Ay];exact(DM (hr m)).2
   .exact(DM h).2
theorem JJ{p:Array Nat}{k:Nat}(h:mN n p):∀f l r,mR lt n (Fw p k f l r)
 | 0,_,_=>trivial
 |f+1,l,r=>wR (t:=.ret l) trivial ⟨h.gt _,h.gt _,yS (JJ h f _ _) (JJ h f _ _)⟩
theorem T1:∀(f:Nat) (p:Array Nat) (k:Nat),mN n p->mR lt n (kas_bin f p k)
 | 0,_,_,_=>trivial
 |f+1,p,k,h=>wQ (JJ h _ _ _) (T1 f _ _ (h.perm (bubble_perm _ _ _)))
def RT(hn:0<n):mR lt n (kas_sort n):=by have h:mN n (Bw (Aa n)):=⟨hn,λx hx=>by simpa using hx⟩;obtain⟨c1,c2⟩:=Ϗ (lt:=lt) (b:=n) h;exact wQ c1 (wR (T1 _ _ _ c2) trivial)
end
theorem GT{α:Type}{lt:Nat->Nat->Bool}{n:Nat}{cI:Nat->Nat->(Bool->Ae->Prop)->Ae->Prop}{Ok:Ae->Prop}(hc:∀i j C s,i<n->j<n->Ok s->(∀s',Ok s'->C (lt i j) s')->cI i j C s){Q:α->Ae->Prop}:
  ∀(t:Oy α) (s:Ae),mR lt n t->Ok s->(∀s',Ok s'->Q (jT lt t) s')->t.kasWp cI Q s
 | .ret a,s,_,ok,q=>q s ok
 | .ask i j k,s,⟨h1,h2,h3⟩,ok,q=>hc i j _ s h1 h2 ok λs' ok'=>GT hc (k (lt i j)) s' h3 ok' q
end L3
namespace L3
open PySem PySem.Spec PyProof.Rows L2 PySem.SeqAt PySem.W
theorem KA:∀a:List Int,HT.lexLt a a=false
 | []=>rfl
 |x::xs=>by rw[HT.lexLt_cons,y6 rfl];exact KA xs
theorem DF:∀a b:List Int,HT.lexLt a b=true->HT.lexLt b a=false
 | [],[],h=>by cases h
 | [],_::_,_=>rfl
 |_::_,[],h=>by cases h
 |x::xs,y::ys,h=>by
  rw[HT.lexLt_cons]at h ⊢;by_cases e:x=y
  .rw[y6 e]at h;rw[y6 e.symm];exact DF xs ys h
  .rw[y8 e]at h;rw[y8 (Cz e)]
   have:=lZ h
   exact W4 ⋯
theorem yV:∀a b c:List Int,HT.lexLt b a=false->HT.lexLt c b=false->HT.lexLt c a=false
 |a,b,[],h1,h2=>by
  cases a with
  |nil=>rfl
  |cons x xs=>
   cases b with
   |nil=>cases h1
   |cons y ys=>cases h2
 |a,[],z::zs,h1,h2=>by
  cases a with
  |nil=>rfl
  |cons x xs=>cases h1
 | [],y::ys,z::zs,h1,h2=>rfl
 |x::xs,y::ys,z::zs,h1,h2=>by
  rw[HT.lexLt_cons]at h1 h2 ⊢;by_cases e1:y=x
  .rw[y6 e1]at h1;by_cases e2:z=y
   .rw[y6 e2]at h2;rw[y6 (e2.trans e1)];exact yV xs ys zs h1 h2
   .rw[y8 e2]at h2
    have:=qJ h2
    rw[y8 ⋯];exact W4 ⋯
  .rw[y8 e1]at h1;have g1:=qJ h1;by_cases e2:z=y
   .rw[y8 ⋯];exact W4 ⋯
   .rw[y8 e2]at h2;have g2:=qJ h2;rw[y8 ⋯];exact W4 ⋯
theorem BZ:∀a b:List Int,HT.lexLt a b=false->HT.lexLt b a=false->a=b
 | [],[],_,_=>rfl
 | [],_::_,h,_=>by cases h
 |_::_,[],_,h=>by cases h
 |x::xs,y::ys,h1,h2=>by
  rw[HT.lexLt_cons]at h1 h2;by_cases e:x=y
  .rw[y6 e]at h1;rw[y6 e.symm]at h2;rw[e,BZ xs ys h1 h2]
  .rw[y8 e]at h1;rw[y8 (Cz e)]at h2;have g1:=qJ h1;have g2:=qJ h2;omega
theorem zK{α:Type}{le:α->α->Prop}(cz:∀a b,le a b->le b a->a=b):∀{xs ys:List α},xs.Perm ys->xs.Pairwise le->ys.Pairwise le->(∀a,le a a)->xs=ys
 | [],ys,p,_,_,_=>(List.nil_perm.mp p).symm
 |x::xs,ys,p,h1,h2,rf=>by
  cases ys with
  |nil=>exact u3 (List.perm_nil.mp p) (by simp)
  |cons y ys=>
   have hx:=D7.mp h1;have hy:=D7.mp h2
   have e:x=y:=by
    have m1:x∈y::ys:=p.mem_iff.mp A6;have m2:y∈x::xs:=p.mem_iff.mpr A6;refine cz x y ?_ ?_
    .rcases Ac.mp m2 with z|z
     .rw[z];exact rf x
     .exact hx.1 y z
    .rcases Ac.mp m1 with z|z
     .rw[z];exact rf y
     .exact hy.1 x z
   subst e;rw[zK cz (List.perm_cons x |>.mp p) hx.2 hy.2 rf]
def pW{α:Type}(le:α->α->Bool)(a:α):List α->List α
 | []=>[a]
 |b::l=>if le a b then a::b::l else b::pW le a l
theorem JY{α:Type}(le:α->α->Bool)(a:α):∀l:List α,(pW le a l).Perm (a::l)
 | []=>.refl _
 |b::l=>by
  unfold pW;split
  .exact .refl _
  .exact((JY le a l).cons b).trans (.swap a b l)
def _root_.List.isrt{α:Type}(l:List α)(le:α->α->Bool):List α:=l.foldr (pW le) []
theorem sE{α:Type}:∀(l:List α) (le:α->α->Bool),(l.isrt le).Perm l
 | [],_=>.refl _
 |a::l,le=>(JY le a _).trans ((sE l le).cons a)
theorem AH{α:Type}{le:α->α->Bool}(tr:∀a b c,le a b=true->le b c=true->le a c=true)(gg:∀a b,(le a b||le b a)=true):∀l:List α,(l.isrt le).Pairwise λa b=>le a b=true
 | []=>.nil
 |a::l=>by
  have av:∀m:List α,m.Pairwise (λa b=>le a b=true)->(pW le a m).Pairwise λa b=>le a b=true:=λm=>by
   induction m with
   |nil=>exact λ_=>Df _ _
   |cons b m ih=>
    intro h;have hb:=D7.mp h;unfold pW;split
    .rename_i e;exact D7.mpr ⟨λc hc=>(Ac.mp hc).elim (λz=>z▸e) λz=>tr _ _ _ e (hb.1 c z),h⟩
    .rename_i e;refine D7.mpr ⟨λc hc=>?_,ih hb.2⟩;rcases Ac.mp ((JY le a m).mem_iff.mp hc) with z|z
     .have:=gg a b
      rw[Ki]at this;rw[z];exact this.resolve_left e
     .exact hb.1 c z
  exact av _ (AH tr gg l)
theorem Sz{α β:Type}{r:α->α->Bool}{s:β->β->Bool}{f:α->β}:∀{l:List α},(∀a∈l,∀b∈l,r a b=s (f a) (f b))->(l.isrt r).map f=(l.map f).isrt s
 | [],_=>rfl
 |a::l,h=>by
  have ih:=Sz (r:=r) (s:=s) (f:=f) (l:=l) λx hx y hy=>h x (A7 _ hx) y (A7 _ hy)
  have av:∀m:List α,(∀b∈m,r a b=s (f a) (f b))->(pW r a m).map f=pW s (f a) (m.map f):=λm=>by
   induction m with
   |nil=>exact λ_=>rfl
   |cons b m im=>
    intro hm
    show (if r a b then a::b::m else b::pW r a m).map f=if s (f a) (f b) then f a::f b::m.map f else f b::pW s (f a) (m.map f)
    rw[<-hm b A6,<-im λc hc=>hm c (A7 _ hc)]
    split<;>rfl
  show (pW r a (l.isrt r)).map f=pW s (f a) ((l.map f).isrt s);rw[<-ih];exact av _ λb hb=>h a A6 b (A7 _ ((sE l r).mem_iff.mp hb))
def lV(a b:List Int):Bool:=!HT.lexLt b a
def sO(nss:List (List Int)):List (List Int):=nss.isrt lV
def zJ(nss:List (List Int)):(sO nss).Perm nss:=sE nss lV
def CL(nss:List (List Int)):(sO nss).Pairwise λa b=>HT.lexLt b a=false:=by
 have h:=AH (le:=lV) (l:=nss) (λa b c h1 h2=>by
  unfold lV at h1 h2 ⊢;simp only[Hf]at h1 h2 ⊢
  exact yV a b c h1 h2) (λa b=>by
  unfold lV
  cases h:HT.lexLt b a with
  |false=>rfl
  |true=>rw[DF b a h];rfl)
 exact h.imp λq=>by unfold lV at q;simpa using q
def vJ(ns:List Int):List Int:=ns.isrt λa b=>decide (a<=b)
def GW(ns:List Int):(vJ ns).Perm ns:=sE ns _
def Tg(ns:List Int):(vJ ns).Pairwise (·<=·):=by
 have h:=AH (le:=λa b:Int=>decide (a<=b)) (l:=ns) (λa b c h1 h2=>by
  have:=lZ h1
  have:=lZ h2
  exact Y1 ⋯) (λa b=>by
  by_cases h:a<=b
  .simp[h]
  .simp;omega)
 exact h.imp λq=>lZ q
section
variable{prog:Bs}{w:Ce}{A:Bz}{E:VP}{s:Ae}
def Qu(vs:List A9):(Aa vs.length).map (λi=>vs.getD i Bx)=vs:=by
 apply Hv
 .simp
 .intro i h1 h2;simp[Jt,h2]
def Η{a:As}{vs:List A9}{P:Na->Ae->Prop}(O:mT lt)(ho:s.heap.get? a=some (Bj "list" vs.toArray n))(fD:vs.length<64)(hk:2<=vs.length->∀h:Ch,(∀b o,b≠a->s.heap.get? b=some o->h.get? b=some o)->∀Q:Ot->Ae->Prop,Q κ { s with heap:=h }->Ah (Aw prog w) A (Ou vs.toArray) Q (λ_ _=>False) { s with heap:=h })
  (hc:∀h:Ch,(∀b o,b≠a->s.heap.get? b=some o->h.get? b=some o)->∀i j,i<vs.length->j<vs.length->∀C:Bool->Ae->Prop,C (lt i j) { s with heap:=h } ->
   Ah (Aw prog w) A (keyLt' κ (vs.getD i Bx) (vs.getD j Bx)) C (λ_ _=>False) { s with heap:=h })
  (fin:∀p:Array Nat,p.size=vs.length->p.Perm (Bw (Aa vs.length))->Up lt p vs.length->P (.done (.ret .none)) { s with heap:=sortedHeap s.heap a vs (Bw (p.toList.map λi=>vs.getD i Bx)) }):
  Ah (Aw prog w) A (C1.«list.sort» ⟨[.ref a],[]⟩) P E s:=by
 rw[list_sort_plain];have ak:a<s.heap.objs.size:=Aj ho
 have hzz:vs.toArray.size<=sizeLine:=by rw[Af,Bk];omega
 refine A0 (Kt ho rfl (A0 (Gz ho rfl ?_ hzz (Bh _))));obtain⟨e1,gy⟩:∃e1,(s.heap.update a (Cg λ_=>(#[]:Array A9))).get? a=some (Bj "list" #[] e1):=⟨_,get?_update_seq ho (λ_=>#[])⟩;refine A0 (Mz gy rfl (A0 (wpAny_newTuple (A0 (Ig (Ca ?_) (Bh _))) (by show vs.length<=_;rw[Bk];omega))))
 generalize hS:({ s with heap:=((s.heap.update a (Cg λ_=>(#[]:Array A9))).push (Bj "tuple" vs.toArray 0)).push (Bj "list" #[] 0) }:Ae)=S6
 have hh6:S6.heap=((s.heap.update a (Cg λ_=>(#[]:Array A9))).push (Bj "tuple" vs.toArray 0)).push (Bj "list" #[] 0):=by rw[<-hS]
 have e6:S6={ s with heap:=S6.heap }:=by rw[<-hS]
 have ho6:S6.heap.get? a=some (Bj "list" #[] e1):=by
  rw[hh6,Ch.get?_push_ne _ _ _ (by rw[Mo,Hw];exact An (C5 ak)),Ch.get?_push_ne _ _ _ (by rw[Hw];exact An ak)]
  exact gy
 have kept:∀b o,b≠a->s.heap.get? b=some o->S6.heap.get? b=some o:=λb o hb e=>by rw[hh6];exact A8 _ (A8 _ ((Bd _ _ (Cz hb)).trans e))
 show Ah (Aw prog w) A _ P E S6;right
 have dO:∀(aQ:SortSt) (p:Array Nat),p.size=vs.length->p.Perm (Bw (Aa vs.length))->Up lt p vs.length->(arrOf aQ).map (·.2)=Bw (p.toList.map λi=>vs.getD i Bx)->Nz aQ=none ->
   Ah (Aw prog w) A (do
    let touched:=(<-seqEpoch a) != e1
    C1.List.listUpdate (.ref a) λ_=>(arrOf aQ).map (·.2)
    if let some e:=Nz aQ then rule "list.sort.comparison-raised";throw e
    if touched then rule "list.sort.modified";raiseError "ValueError" "list modified during sort"
    ret .none) P E S6:=λaQ p h1 h2 h3 h4 h5=>by
  refine A0 (Mz ho6 rfl ?_);refine A0 (Gz ho6 rfl ?_ (Bh _) ?_)
  .rw[h5,h4];simp only[bne_self_eq_false,B4,if_false];have z:=fin p h1 h2 h3;unfold sortedHeap at z;rw[<-hh6]at z;refine x6 ?_;rw[e6];exact z
  .rw[h4];show (Bw (p.toList.map λi=>vs.getD i Bx)).size<=sizeLine+1;rw[Af,A3,Ar,h1,Bk];omega
 by_cases h2:vs.toArray.size<2
 .rw[y6 h2,y6 h2];refine A0 (x6 ?_);rw[StateT.run_pure];refine A0 (x6 ?_);right;refine dO (SortSt.mk' general' (vs.toArray.zip vs.toArray) #[] 7 none) (Bw (Aa vs.length)) (by simp) (Fv _) (λi j bD hj=>?_) ?_ rfl
  .have:i=j:=by rw[Af]at h2;omega
   subst this;exact O.irr _
  .rw[show (Bw (Aa vs.length)).toList=Aa vs.length from rfl,Qu];apply Array.toList_inj.mp;show ((vs.toArray.zip vs.toArray).map (·.2)).toList=vs;apply Hv
   .simp
   .intro i g1 g2;simp
 .rw[y8 h2,y8 h2]
  have bh:2<=vs.length:=by rw[Af]at h2;omega
  have zk:=hk bh S6.heap kept (λκ' s'=>κ'=κ/\s'=S6) ⟨rfl,e6.symm⟩;rw[<-e6]at zk;refine A0 (Cm zk (λκ' s' hq=>?_) λ_ _ x=>x.elim);obtain⟨jm,iQ⟩:=hq;rw[jm,iQ];obtain⟨p,ep,p1,p2,p3⟩:=RU O (n:=vs.length) ⋯
  refine A0 (Cm (kat_run (ks:=vs) (vs:=vs) (Q:=λaQ s'=>∃q,q.size=vs.length/\arrOf aQ=q.map (kas_item (vs.toArray.zip vs.toArray))/\Nz aQ=none/\q=p/\s'=S6) rfl bh fD (λq aQ s' a1 a2 a3 a4=>⟨q,a1,a2,a3,a4⟩)
   (GT (lt:=lt) (n:=vs.length) (Ok:=λs'=>s'=S6) (λi j C s' hi hj hs hC=>?_) _ S6 (RT ⋯) rfl (λs' hs=>⟨ep,hs⟩))) ?_ λ_ _ e=>e)
  .rw[hs];unfold kas_ask;have z0:=hC S6 rfl;rw[e6]at z0;have z:=hc S6.heap kept i j hi hj C z0;rw[<-e6]at z;exact z
  .rintro ⟨⟨⟩,aQ⟩ s' ⟨q,q1,q2,q3,hqp,hqs⟩;rw[hqs];rw[hqp]at q2;exact dO aQ p p1 p2 p3 (kat_snds rfl q2) q3
def Qe{us:List A9}{Q:List A9->Ae->Prop}(ht:Jo s.heap l us.toArray)(q:Q us { s with heap:=(s.heap.push (Bj "list" #[] 0)).update s.heap.objs.size (Cg (·++us.toArray)) })(hz:us.length<=sizeLine):Ah (Aw prog w) A (Jz (.ref l)) Q E s:=by
 obtain⟨ob,hob,ar,n,hdt⟩:=id ht;have ie:(s.heap.push (Bj "list" #[] 0)).get? l=some ob:=A8 _ hob;unfold Jz;refine A0 (Jb (codeAny_builtin entry_proto_collect' (A0 (Ig (x6 ⟨Code.quiet_builtin _ ‹_›,codeAny_builtin entry_list_iadd' ?_⟩)))));show Ah _ _ (Dw (.ref s.heap.objs.size) (.ref l) (.ref s.heap.objs.size)) _ _ { s with heap:=s.heap.push (Bj "list" #[] 0) }
 unfold Dw;refine A0 (F9 (T:="tuple") ⟨ob,ie,ar⟩ ?_);rw[y6 (by rw[show (C4 "tuple"==C4 "tuple")=true by rfl];simp)]
 refine A0 (Kt ie hdt (A0 (Kt (xs:=#[]) (n:=0) (Ak _ rfl) rfl ?_)));rw[y8 (by simp)];refine A0 (Gz (xs:=#[]) (n:=0) (Ak _ rfl) rfl (x6 ?_) (Bh _) (by show (#[]++us.toArray).size<=sizeLine+1;simp only[Array.size_append,Af,Ed];omega))
 refine A0 (Mm (get?_update_seq (Ak _ rfl) _) ?_);show Ah _ _ (Ci ((#[]:Array A9)++us.toArray).toList) Q E _;rw[show ((#[]:Array A9)++us.toArray).toList=us by simp];exact x6 q
def LN(prog:Bs)(w:Ce)(A:Bz)(Q:VP)(us:List A9)(s:Ae):Prop:=∃(κ:Ot) (lt:Nat->Nat->Bool),mT lt/\us.length<64 /\
  (2<=us.length->∀h:Ch,(∀b o,s.heap.get? b=some o->h.get? b=some o)->∀Q':Ot->Ae->Prop,Q' κ { s with heap:=h }->Ah (Aw prog w) A.in1.in1 (Ou us.toArray) Q' (λ_ _=>False) { s with heap:=h }) /\
  (∀h:Ch,(∀b o,s.heap.get? b=some o->h.get? b=some o)->∀i j,i<us.length->j<us.length->∀C:Bool->Ae->Prop,C (lt i j) { s with heap:=h } ->
   Ah (Aw prog w) A.in1.in1 (keyLt' κ (us.getD i Bx) (us.getD j Bx)) C (λ_ _=>False) { s with heap:=h }) /\
  ∀(p:Array Nat) (h':Ch) (e:Nat),p.size=us.length->p.Perm (Bw (Aa us.length))->Up lt p us.length->(∀b o,s.heap.get? b=some o->h'.get? b=some o)->h'.get? s.heap.objs.size=some (Bj "list" (Bw (p.toList.map λi=>us.getD i Bx)) e)->Q (.ref s.heap.objs.size) { s with heap:=h' }
def QV(h:Ah (Aw prog w) A.in1 (Jz (.ref l)) (LN prog w A Q) E s):Ah (Aw prog w) A (call (.builtin "sorted") [.ref l]) Q E s:=by
 refine Calls.call_function_entry kind_sorted plain_sorted entry_sorted (args_sorted1 _) ?_;unfold C1.«sorted»;refine A0 (m:=checkCount "sorted" 1 1 _) (x6 ?_);refine A0 (Cm h (λus s1 ⟨κ,lt,O,fD,hk,hc,fin⟩=>?_) λ_ _ z=>z)
 have hz:us.length<=sizeLine:=by rw[Bk];omega
 refine A0 (Ig ?_ hz);have g2:(s1.heap.push (Bj "list" us.toArray 0)).get? s1.heap.objs.size=some (Bj "list" us.toArray 0):=Ak _ rfl;have h3:∀(h:Ch),(∀b o,b≠s1.heap.objs.size->(s1.heap.push (Bj "list" us.toArray 0)).get? b=some o->h.get? b=some o)->∀b o,s1.heap.get? b=some o->h.get? b=some o:=λh k b o e=>k b o (An (Aj e)) (A8 _ e)
 refine A0 (Ca (Ct slot_list_sort ⟨_,g2,rfl⟩ entry_list_sort (Η (κ:=κ) O g2 fD (λg h k Q' q'=>hk g h (h3 h k) Q' q') (λh k i j hi hj C hC=>hc h (h3 h k) i j hi hj C hC) (λp a1 a2 a3=>⟨_,rfl,x6 ⟨_,rfl,?_⟩⟩)) (args_list_sort _)));obtain⟨e,he⟩:=sortedHeap_at (out:=Bw (p.toList.map λi=>us.getD i Bx)) g2;refine fin p _ e a1 a2 a3 (λb o g=>?_) he
 have hb:=Aj g;exact(sortedHeap_old (An hb) (by rw[Mo];exact C5 hb)).trans (A8 _ g)
theorem II{Q:Bool->Ae->Prop}:∀{us ws:List A9} {ns ms:List Int},Cj us ns->Cj ws ms->∀(i:Nat) (fin:Bool),fin=decide (ns.length<ms.length)->Q (HT.lexLt ns ms) s ->
  KatLex prog w A b fin Q (us.zip ws) i s
 |_,_,_,_,.nil,.nil,i,fin,e,q=>by subst e;exact kat_nil q
 |_,_,_,_,.nil,.cons m t h,i,fin,e,q=>by
  have e':fin=true:=by rw[e];simp
  rw[e'];exact kat_nil q
 |_,_,_,_,.cons n t h,.nil,i,fin,e,q=>by
  have e':fin=false:=by rw[e];simp
  rw[e'];exact kat_nil q
 |_,_,_,_,.cons n t h,.cons m t' h',i,fin,e,q=>by
  rw[Ey];refine kat_cons (Ge.int_int n t m t' prog w _ _ ?_);rw[HT.lexLt_cons]at q;by_cases dG:n=m
  .rw[show (n==m)=true by simpa using dG];rw[y6 dG]at q;exact kat_yes (II h h' (i+1) fin (by rw[e];simp) q)
  .rw[show (n==m)=false by simpa using dG];rw[y8 dG]at q;refine kat_no ?_
   cases (b&&i==0) with
   |true=>exact oneLt_int q
   |false=>exact kat_one _ _ (lt_int q)
end
def mP:List D->Option (List (List Int))
 | []=>some []
 | .tup xs::r=>(match lJ xs with|some (n::ns)=>(mP r).map ((n::ns)::·)|_=>none)
 |_::_=>none
theorem DP:∀{ds:List D} {nss:List (List Int)},mP ds=some nss->ds=nss.map (λns=>D.tup (ns.map D.int))/\∀ns∈nss,ns≠[]
 | [],nss,e=>by cases e;exact⟨rfl,λ_ h=>by simp at h⟩
 | .tup xs::r,nss,e=>by
  unfold mP at e;split at e
  .rename_i n ns h1;obtain⟨mss,h2,rfl⟩:=B5.mp e;obtain⟨h3,h4⟩:=DP h2;refine⟨by rw[h3,rF h1];rfl,λms hm=>?_⟩
   rcases Ac.mp hm with z|z
   .rw[z];simp
   .exact h4 ms z
  .cases e
 | .non::r,_,e=>by unfold mP at e;cases e
 | .bl _::r,_,e=>by unfold mP at e;cases e
 | .str _::r,_,e=>by unfold mP at e;cases e
 | .int _::r,_,e=>by unfold mP at e;cases e
 | .lst _::r,_,e=>by unfold mP at e;cases e
theorem DJ:∀{nss:List (List Int)},(∀ns∈nss,ns≠[])->mP (nss.map λns=>D.tup (ns.map D.int))=some nss
 | [],_=>rfl
 |ns::nss,h=>by
  cases ns with
  |nil=>exact u3 rfl (h [] A6)
  |cons n ns=>rw[Ai,mP,Qi];right;rw[DJ λms hm=>h ms (A7 _ hm)];rfl
def lO(ds:List D):Option (List D):=if ds.length<64 then
  (match lJ ds with
  |some ns=>some ((vJ ns).map D.int)
  |none=>(match mP ds with|some nss=>some ((sO nss).map λns=>D.tup (ns.map D.int))|none=>none))
 else none
section
variable{X:Cx}
def MC{α:Type}{p:Array Nat}{us:List α}{d:α}(hp:p.Perm (Bw (Aa us.length))):(p.toList.map λi=>us.getD i d).Perm us:=by
 have h1:p.toList.Perm (Aa us.length):=Array.perm_iff_toList_perm.mp hp;have h2:=h1.map (λi=>us.getD i d)
 have h3:(Aa us.length).map (λi=>us.getD i d)=us:=by
  apply Hv
  .simp
  .intro i g1 g2;simp[Jt,g2]
 rw[h3]at h2;exact h2
theorem ME{K:A5}{H:Hp}{ds:List D}{xs:List V}(h:J3 K H ds xs):∀is:List Nat,(∀i∈is,i<ds.length)->J3 K H (is.map λi=>ds.getD i .non) (is.map λi=>xs.getD i .non)
 | [],_=>J3.nil
 |i::is,hi=>by have h1:i<ds.length:=hi i A6;obtain⟨v,e,r⟩:=h.get (A4 h1);rw[Ai,Ai];refine J3.cons ?_ (ME h is λj hj=>hi j (A7 _ hj));rw[K5 (A4 h1),K5 e];exact r
theorem MF(h:Y4 xs us):∀is:List Nat,(∀i∈is,i<xs.length)->Y4 (is.map λi=>xs.getD i .non) (is.map λi=>us.getD i Bx)
 | [],_=>.nil
 |i::is,hi=>by have h1:i<xs.length:=hi i A6;obtain⟨v,e,r⟩:=h.get (A4 h1);rw[Ai,Ai];refine .cons ?_ (MF h is λj hj=>hi j (A7 _ hj));rw[K5 (A4 h1),K5 e];exact r
def wJ{p:Array Nat}(hp:p.Perm (Bw (Aa n))):∀i∈p.toList,i<n:=λi hi=>by
 have:=(Array.perm_iff_toList_perm.mp hp).mem_iff.mp hi
 simpa using this
def HG{p:Array Nat}{n:Nat}(hz:p.size=n)(h:Up lt p n):p.toList.Pairwise λi j=>lt j i=false:=by
 rw[Hz];intro i j hi hj bD
 have bL:i<p.size:=by simpa using hi
 have cQ:j<p.size:=by simpa using hj
 have e:=h i j (Dc bD) ⋯;unfold gt at e
 have e1:p.getD i 0=p.toList[i]:=by simp[Em,bL]
 have e2:p.getD j 0=p.toList[j]:=by simp[Em,cQ]
 rw[e1,e2]at e;exact e
theorem Pv:∀{its:List A9} {ns:List Int},Cj its ns->2<=its.length->Ou its.toArray=Ci oneType'
 | [],_,_,h=>u3 h (by simp)
 | [_],_,_,h=>u3 h (by simp)
 |v1::v2::r,ns,hi,_=>keyKind_ints hi
def DY(hi:Cj its ns){i:Nat}(h:i<its.length):∃t,its.getD i Bx = .int (ns.getD i 0) t:=by
 have hl:=hi.length
 have h2:i<ns.length:=by omega
 obtain⟨t,e⟩:=hi.get i ns[i] (A4 h2);exact⟨t,by rw[K5 e,K5 (A4 h2)]⟩
def Ϩ(ns:List Int):mT (λi j=>decide (ns.getD i 0<ns.getD j 0)):=
 ⟨λi j h=>by
  have:=lZ h
  exact W4 ⋯,λi j k h1 h2=>by
  have:=qJ h1
  have:=qJ h2
  exact W4 ⋯⟩
def ϩ(nss:List (List Int)):mT (λi j=>HT.lexLt (nss.getD i []) (nss.getD j [])):=
 ⟨λi j h=>DF _ _ h,λi j k h1 h2=>yV _ _ _ h1 h2⟩
def Ϫ{ns:List Int}{p:Array Nat}(p1:p.size=ns.length)(p2:p.Perm (Bw (Aa ns.length)))(p3:Up (λi j=>decide (ns.getD i 0<ns.getD j 0)) p ns.length):
  (p.toList.map λi=>(ns.map D.int).getD i .non)=(vJ ns).map D.int:=by
 have e:(p.toList.map λi=>(ns.map D.int).getD i .non)=(p.toList.map λi=>ns.getD i 0).map D.int:=by rw[B2];apply B6;intro i hi;have h2:i<ns.length:=wJ p2 i hi;show (ns.map D.int).getD i .non=D.int (ns.getD i 0);rw[K5 (x:=D.int ns[i]) (by rw[Ao,A4 h2];rfl),K5 (A4 h2)]
 rw[e];congr 1;refine zK (le:=λa b:Int=>a<=b) (λa b h1 h2=>⋯) ((MC p2).trans (GW ns).symm) ?_ (Tg ns) (λa=>Ob a);rw[Bu]
 exact(HG p1 p3).imp λh=>by
  have:=qJ h
  omega
def ϫ{nss:List (List Int)}{p:Array Nat}(p1:p.size=nss.length)(p2:p.Perm (Bw (Aa nss.length)))(p3:Up (λi j=>HT.lexLt (nss.getD i []) (nss.getD j [])) p nss.length):
  (p.toList.map λi=>(nss.map λns=>D.tup (ns.map D.int)).getD i .non)=(sO nss).map λns=>D.tup (ns.map D.int):=by
 have e:(p.toList.map λi=>(nss.map λns=>D.tup (ns.map D.int)).getD i .non)=(p.toList.map λi=>nss.getD i []).map λns=>D.tup (ns.map D.int):=by rw[B2];apply B6;intro i hi;have h2:i<nss.length:=wJ p2 i hi;show (nss.map λns=>D.tup (ns.map D.int)).getD i .non=D.tup ((nss.getD i []).map D.int);rw[K5 (x:=D.tup (nss[i].map D.int)) (by rw[Ao,A4 h2];rfl),K5 (A4 h2)]
 rw[e];congr 1;refine zK (le:=λa b:List Int=>HT.lexLt b a=false) (λa b h1 h2=>BZ a b h2 h1) ((MC p2).trans (zJ nss).symm) ?_ (CL nss) (λa=>KA a);rw[Bu];exact(HG p1 p3).imp λh=>h
def tM(I:a9 X aa U H s){ns:List Int}(hr:e9 X.K H (D.tup (ns.map D.int)) x)(rv:f9 x u):
  ∃a o its n,u = .ref a/\s.heap.get? a=some o/\o.cls = .type "tuple"/\o.data = .seq its n/\Cj its.toList ns:=by
 obtain⟨a,xs,rfl,h1,h2⟩:=j5.mp hr;rw[Y9]at h2;subst h2;cases rv;obtain⟨its,r,p,_⟩:=I.tuple h1;obtain⟨o,ho,hc,n,hd⟩:=p;exact⟨a,o,its.toArray,n,rfl,ho,hc,hd,Z3 r⟩
theorem KU(I:a9 X aa U H s){h:Ch}(hk:∀b o,s.heap.get? b=some o->h.get? b=some o):∀{nss:List (List Int)} {us:List V} {its:List A9},(∀ns∈nss,ns≠[]) ->
  J3 X.K H (nss.map λns=>D.tup (ns.map D.int)) us->Y4 us its->∃fs,KatTups h its fs/\fs.length=its.length/\∀v∈fs,∃n t,v=Ip n t
 | [],us,its,_,hr,rv=>by rw[Go,J9]at hr;subst hr;cases rv;exact⟨[],KatTups.nil,rfl,λv hv=>by simp at hv⟩
 |ns::nss,us,its,am,hr,rv=>by
  rw[Ai,j7]at hr;obtain⟨x,xs,rfl,h1,h2⟩:=hr
  cases rv with
  |cons r1 r2=>
   obtain⟨fs,t1,t2,t3⟩:=KU I hk (λms hm=>am ms (A7 _ hm)) h2 r2;obtain⟨a,o,js,n,rfl,ho,hc,hd,hi⟩:=tM I h1 r1
   cases ns with
   |nil=>exact u3 rfl (am [] A6)
   |cons m ms=>
    obtain⟨t,e⟩:=hi.get 0 m rfl
    have e':js[0]?=some (Ip m t):=by simpa using e
    refine⟨Ip m t::fs,KatTups.cons (hk _ _ ho) hc hd e' t1,by simp[t2],λv hv=>?_⟩;rcases Ac.mp hv with z|z
    .exact⟨m,t,z⟩
    .exact t3 v z
def TV(K:A5):List V->Hp->VK->Prop:=λxs H Q=>∃a us ds es Hh,xs=[.ref a]/\J4 Hh H/\(i7 K H a us\/i8 K H a us)/\J3 K Hh ds us/\lO ds=some es/\∀p ys,H p=none->J3 K Hh es ys->Q (.ref p) (upd H p (.lst ys))
def a9.laidD{a:As}{h':Ch}{t':Nat}{d':Drawn}(I:a9 X aa U H s)(k:∀b u,s.heap.get? b=some u->h'.get? b=some u)(hp:s.heap.objs.size<=a)(new:kX X.prog X.w (upd H a o) h' a o):
  a9 X aa U (upd H a o) { s with heap:=h',toks:=t',drawn:=d' }:=by
 have hn:=I.hok.fresh hp;have sm:J4 H (upd H a o):=u9 hn;refine I.step (g':=s.gens) (d':=d') (ch:=[]) (λ_ z=>nomatch z) (λb o' _ _ _ e _=>k b o' e) (λb o' _ _ _ e _=>⟨o'.slots,k b o' e⟩) (λb o' _ e n=>?_) (λb o' _ e=>⟨o',k b o' e⟩) (λb xs e=>sm _ _ e) (λb o' u e=>sm _ _ e) (λb ps e=>⟨#[],by rw[sm _ _ e];simp⟩) (λm hm=>?_) (I.hok.laid k hp new) I.bare
 .rw[j3]
  .exact n
  .intro z
   have:=Aj e
   rw[z]at this;exact u3 (B3 this hp) (Di _)
 .obtain⟨o',cD,dF,br,r'⟩:=hm;exact⟨o',cD,dF,k _ _ br,r'⟩
def Qx{Q:VK}{ds es:List D}{h1:Ch}{tk:Nat}{d:Drawn}(I:a9 X aa U H s)(sH:J4 Hh H)(fz:J3 X.K Hh ds us)(rv:Y4 us its)(hs:lO ds=some es)(k1:∀b o,s.heap.get? b=some o->h1.get? b=some o)(hsz:s.heap.objs.size<=h1.objs.size)(q:∀p ys,H p=none->J3 X.K Hh es ys->Q (.ref p) (upd H p (.lst ys))):LN X.prog X.w X.A (EP X aa U Q) its { s with heap:=h1,toks:=tk,drawn:=d }:=by
 have hr:=fz.mono sH;have l1:=hr.length;have l2:=rv.length;unfold lO at hs;split at hs
 .rename_i fD
  have fin:∀(p:Array Nat) (h':Ch) (e:Nat),p.size=its.length->p.Perm (Bw (Aa its.length))->(p.toList.map λi=>ds.getD i .non)=es->(∀b o,h1.get? b=some o->h'.get? b=some o)->h'.get? h1.objs.size=some (Bj "list" (Bw (p.toList.map λi=>its.getD i Bx)) e) ->
    EP X aa U Q (.ref h1.objs.size) { s with heap:=h',toks:=tk,drawn:=d }:=λp h' e p1 p2 p3 kp g=>by
   have pl:∀i∈p.toList,i<its.length:=wJ p2
   have v1:Y4 (p.toList.map λi=>us.getD i .non) (p.toList.map λi=>its.getD i Bx):=MF rv _ λi hi=>by have:=pl i hi;omega
   have v2:J3 X.K Hh es (p.toList.map λi=>us.getD i .non):=by
    rw[<-p3]
    exact ME fz _ λi hi=>by have:=pl i hi;omega
   refine⟨.ref h1.objs.size,_,a9.laidD (s:=s) (t':=tk) (d':=d) (o:=.lst (p.toList.map λi=>us.getD i .non)) I (λb o hb=>kp _ _ (k1 _ _ hb)) hsz ?_,rfl,q _ _ (I.hok.fresh hsz) v2⟩;refine⟨?_,_,e,v1,g⟩;rw[A3,Ar,p1,Bk];omega
  split at hs
  .rename_i ns hn;cases hs;have hd:=rF hn;subst hd;have hus:=Y9.mp hr;subst hus;have hi:Cj its ns:=Z3 rv;have hz:its.length=ns.length:=hi.length;refine⟨oneType',_,Ϩ ns,⋯,λg2 h gC Q' q'=>?_,λh gC i j bL cQ C hC=>?_,λp h' e p1 p2 p3 kp g=>fin p h' e p1 p2 (Ϫ (by rw[p1,hz]) (by rw[<-hz];exact p2) (by rw[<-hz];exact p3)) kp g⟩
   .rw[Pv hi g2];exact x6 q'
   .obtain⟨ti,ei⟩:=DY hi bL;obtain⟨tj,ej⟩:=DY hi cQ;rw[ei,ej,keyLt'_oneType];exact oneLt_int hC
  .split at hs
   .rename_i nss hn;cases hs;obtain⟨hd,am⟩:=DP hn;subst hd
    have hz:its.length=nss.length:=by rw[<-l2,<-l1,A3]
    refine⟨tuples' (C4 "int" != C4 "tuple"),_,ϩ nss,⋯,λg2 h gC Q' q'=>?_,λh gC i j bL cQ C hC=>?_,λp h' e p1 p2 p3 kp g=>fin p h' e p1 p2 (ϫ (by rw[p1,hz]) (by rw[<-hz];exact p2) (by rw[<-hz];exact p3)) kp g⟩
    .obtain⟨fs,t1,t2,t3⟩:=KU I (λb o e=>gC b o (k1 b o e)) am hr rv;refine kat_kind (s:={ s with heap:=h,toks:=tk,drawn:=d }) t1 ⋯ (λv hv=>?_) rfl q';obtain⟨n,t,rfl⟩:=t3 v hv;exact Looks.of_pure rfl
    .have gi:i<nss.length:=by omega
     have gj:j<nss.length:=by omega
     obtain⟨xi,e1,r1⟩:=hr.get (i:=i) (d:=D.tup (nss[i].map D.int)) (by rw[Ao,A4 gi];rfl)
     obtain⟨xj,e2,r2⟩:=hr.get (i:=j) (d:=D.tup (nss[j].map D.int)) (by rw[Ao,A4 gj];rfl)
     obtain⟨ui,f1,s1⟩:=rv.get e1;obtain⟨uj,f2,s2⟩:=rv.get e2;obtain⟨ai,oi,ji,ni,rfl,iD,fZ,hdi,ii⟩:=tM I r1 s1;obtain⟨aj,oj,jj,nj,rfl,hoj,hcj,hdj,ij⟩:=tM I r2 s2;rw[K5 f1,K5 f2];rw[K5 (A4 gi),K5 (A4 gj)]at hC;refine kat_lt (s:={ s with heap:=h,toks:=tk,drawn:=d }) (gC _ _ (k1 _ _ iD)) hdi (gC _ _ (k1 _ _ hoj)) hdj (II ii ij 0 _ ?_ hC);have a1:=ii.length
     have a2:=ij.length;rw[Ar]at a1 a2;rw[a1,a2]
   .cases hs
 .cases hs
def į:lC X (.builtin "sorted") (TV X.K):=by
 intro aa s U H xs vs Q I r h;obtain⟨a,us,ds,es,Hh,rfl,sH,hq,fz,hs,q⟩:=h;obtain⟨u,rfl,ru⟩:=l7 r;cases ru
 have l0:us.length<64:=by
  have:=fz.length
  unfold lO at hs;split at hs
  .omega
  .cases hs
 refine QV ?_
 have fin:∀{its:List A9},Y4 us its->LN X.prog X.w X.A (EP X aa U Q) its { s with heap:=(s.heap.push (Bj "list" #[] 0)).update s.heap.objs.size (Cg (·++its.toArray)) }:=λ{its} rv=>Qx (tk:=s.toks) (d:=s.drawn) I sH fz rv hs (λb o e=>(Bd _ _ (Cz (An (Aj e)))).trans (A8 _ e)) (by rw[Hw,Mo];exact E9 _) q
 rcases hq with hq|hq
 .obtain⟨its,rv,pl,_⟩:=I.list hq;exact collect_list pl.isList (fin rv) (by rw[<-rv.length,Bk];omega)
 .obtain⟨its,rv,pl,_⟩:=I.tuple hq;exact Qe pl (fin rv) (by rw[<-rv.length,Bk];omega)
end
end L3
namespace L3
open PySem PySem.Spec PyProof.Rows L2 PySem.SeqAt
def pZ(K:A5)(r:List V->Hp->VK->Prop)(F:LD):Prop:=∀ds d,F ds=some d->∀(Z:List As) (H:Hp) (vs:List V) (Q:VK),(∀z∈Z,∃o,H z=some o)->J3 K (K0 Z H) ds vs->(∀w' H',J4 H H'->e9 K (K0 Z H') d w'->Q w' H')->r vs H Q
def MO(K:A5)(r:List V->Hp->VK->Prop)(F:List D->Option (List D)):Prop:=
 ∀ds es,F ds=some es->∀(Z:List As) (H:Hp) (a:As) (xs:List V) (Q:VK),(∀z∈Z,∃o,H z=some o)->(i7 K H a xs\/i8 K (K0 Z H) a xs)->J3 K (K0 Z H) ds xs ->
  (∀l ys H',J4 H H'->H l=none->H' l=some (.lst ys)->J3 K (K0 (l::Z) H') es ys->Q (.ref l) H')->r [.ref a] H Q
def dQ(F:LD)(f:EL):ED:=λY=>match f Y with|some ds=>F ds|none=>none
def nS(F:List D->Option (List D))(f:EL):EL:=λY=>match f Y with|some ds=>F ds|none=>none
section
variable{X:Cx}{x:Ba}{p pos:Hi}{e:Expr}{es:List Expr}{id T:String}{r:List V->Hp->VK->Prop}{F:LD}{FL:List D->Option (List D)}{g f:EL}
def Pd{K:A5}(hr:pZ K r F):∀U H Q,tD K (x8 F g) U H Q->FY r (tL K g) U H Q:=λU H Q h_=>by
 refine f7 h_ λY d B H0 V0 Z e r' q=>?_;unfold x8 at e;split at e
 .rename_i ds aF;exact⟨Y,ds,B,H0,V0,Z,aF,r',λvs H1 s1 rr=>hr ds d e Z H1 vs Q (r'.mono s1).zs rr λw' H' s rw'=>q w' H' (s1.trans s) rw'⟩
 .cases e
def CJ(hc:lC X (.builtin id) r)(hr:pZ X.K r F)(hm:X.mg x=none)(hv:Db x=some (.builtin id))(ha:SA X (e::es) g)(hg:Gl X x:=by rfl)(hn:x≠"__name__":=by decide)(bG:(x==("__debug__":Ba))=false:=by decide)(he:J0 e=true:=by rfl)(au:es.all J0=true:=by rfl): SE X (.Call (.Name x p) (e::es) [] pos) (x8 F g):=j6 (tW hc hg hm hv ha hn bG (w9 he) (K7 au)) (Pd hr)
def YR(hc:lC X (.type T) r)(hr:pZ X.K r F)(hm:X.mg x=none)(hv:Db x=some (.type T))(ha:SA X (e::es) g)(hg:Gl X x:=by rfl)(hn:x≠"__name__":=by decide)(bG:(x==("__debug__":Ba))=false:=by decide)(he:J0 e=true:=by rfl)(au:es.all J0=true:=by rfl): SE X (.Call (.Name x p) (e::es) [] pos) (x8 F g):=j6 (oN hc hg hm hv ha hn bG (w9 he) (K7 au)) (Pd hr)
def Zw{K:A5}(hr:MO K r FL):∀U H Q,tF K (nS FL f) U H Q->FY r (MG (tQ K f) FW) U H Q:=λU H Q h_=>by
 refine f7 h_ λY d B H0 V0 Z e r' q=>?_;unfold nS at e;split at e
 .rename_i ds aF;exact⟨Y,ds,B,H0,V0,Z,aF,r',λa xs H1 s1 hq rr=>hr ds d e Z H1 a xs Q (r'.mono s1).zs hq rr λl ys H' s hn hl rw'=>q l ys H' (s1.trans s) (s1.free hn) hl rw'⟩
 .cases e
def Ζ(hc:lC X (.builtin id) r)(hr:MO X.K r FL)(hm:X.mg x=none)(hv:Db x=some (.builtin id))(h:SQ X e f)(hg:Gl X x:=by rfl)(hn:x≠"__name__":=by decide)(bG:(x==("__debug__":Ba))=false:=by decide)(he:J0 e=true:=by rfl): SF X (.Call (.Name x p) [e] [] pos) (nS FL f):=j6 (tW hc hg hm hv (J7 h Y5 (w9 he)) hn bG (w9 he) (K7 rfl)) (Zw hr)
end
section
variable{X:Cx}{p pos:Hi}{e:Expr}{f:EL}
def SW{Z:List As}{H:Hp}(zs:∀z∈Z,∃o,H z=some o)(hl:H l=none):l∉Z:=λz=>by obtain⟨o,ho⟩:=zs _ z;rw[hl]at ho;cases ho
def YG{K:A5}:MO K (TV K) lO:=by intro ds es hs Z H a xs Q zs hq rr q;refine⟨a,xs,ds,es,K0 Z H,rfl,v4,hq.imp id (j9 v4),rr,hs,λl ys hl ry=>?_⟩;exact q l ys _ (u9 hl) hl w6 (ry.mono (rC hl (u9 hl)))
def sJ(hm:X.mg "sorted" = none)(h:ZQ X e f)(hg:Gl X "sorted":=by rfl)(he:J0 e=true:=by rfl): ZF X (.Call (.Name "sorted" p) [e] [] pos) (nS lO f):=
 ⟨have h:=h.h;
 Ζ į YG hm ‹_› h hg ∅ ∅ he⟩
def v3M(K:A5):List V->Hp->VK->Prop:=λxs H Q=>∃p,∃bs:List Bool,xs=[.ref p]/\i7 K H p (bs.map V.bl)/\Q (.bl (bs.all id)) H
theorem Sf:∀{bs:List Bool} {us:List A9},Y4 (bs.map V.bl) us->LSm.BoolsAre us bs
 | [],_,.nil=>.nil
 |b::bs,_,.cons r t=>by cases r;exact .cons _ (Sf t)
def ό(hc:X.calm=true):lC X (.builtin "all") (v3M X.K):=by
 intro aa s U H xs us Q I r h;obtain⟨l,bs,rfl,hq,q⟩:=h;obtain⟨u,rfl,rx⟩:=l7 r;cases rx;obtain⟨vs,rv,pl,hz⟩:=I.list hq;have hl:=pl.isList;have hb:=Sf rv
 have ak:l<s.heap.objs.size:=by obtain⟨_,e,_⟩:=hl;exact Aj e
 refine call_all_walk (Hd hl ?_)
 refine⟨s.heap.objs.size,[s.heap.objs.size,l],[s.heap.objs.size],vs.toArray.size,_,_,λi=>(bs[i]?).getD true,rfl,Ov (A:=X.A.in1) (I.ok.hd hc) _ l (An ak) vs.toArray,
  ⟨⟨_,Ak _ rfl,rfl,rfl⟩,hl.push _⟩,λi v s' Q' E' hP hQ=>?_,λh' tk hk=>?_⟩
 .obtain⟨b,e,rfl⟩:=hb.get i v (by simpa using hP);simp only[e,Option.getD_some]at hQ;exact Dk hQ
 .have e:((Aa vs.toArray.size).all λi=>(bs[i]?).getD true)=bs.all id:=by rw[Af,hb.length];exact LSm.range_all bs
  rw[e];exact⟨.bl _,H,I.kept (LSm.kept_iter hk),rfl,q⟩
def rG:List D->Option (List Bool)
 | []=>some []
 | .bl b::r=>(rG r).map (b::·)
 |_::_=>none
theorem P5:∀{ds:List D} {bs:List Bool},rG ds=some bs->ds=bs.map D.bl
 | [],bs,e=>by cases e;rfl
 | .bl b::r,bs,e=>by unfold rG at e;obtain⟨cs,h1,rfl⟩:=B5.mp e;rw[P5 h1];rfl
 | .int _::r,_,e=>by unfold rG at e;cases e
 | .non::r,_,e=>by unfold rG at e;cases e
 | .str _::r,_,e=>by unfold rG at e;cases e
 | .tup _::r,_,e=>by unfold rG at e;cases e
 | .lst _::r,_,e=>by unfold rG at e;cases e
 | .dct _ _::r,_,e=>by unfold rG at e;cases e
theorem Td{K:A5}{H:Hp}:∀{bs:List Bool} {xs:List V},J3 K H (bs.map D.bl) xs->xs=bs.map V.bl
 | [],xs,h=>J9.mp h
 |b::bs,xs,h=>by obtain⟨v,vs,rfl,h1,h2⟩:=j7.mp h;rw[Q3.mp h1,Td h2];rfl
def MR(f:EL):ED:=λY=>match f Y with|some ds=>(match rG ds with|some bs=>some (.bl (bs.all id))|none=>none)|none=>none
def ó(hc:X.calm=true)(hm:X.mg "all" = none)(h:ZF X e f)(hg:Gl X "all":=by rfl)(he:J0 e=true:=by rfl): ZE X (.Call (.Name "all" p) [e] [] pos) (MR f):=
 ⟨have h:=h.h;
 j6 (tW (ό hc) hg hm ‹_› (J7 h Y5 (w9 he)) ∅ ∅ (w9 he) (K7 rfl)) λU H Q h_=>by
  refine f7 h_ λY d B H0 V0 Z e r q=>?_;unfold MR at e;split at e
  .rename_i ds aF;split at e
   .rename_i bs hb;cases e
    have:=P5 hb
    subst this;refine⟨Y,_,B,H0,V0,Z,aF,r,λa xs H' s hn ha rr=>⟨a,bs,rfl,?_,q _ H' s (Q3.mpr rfl)⟩⟩;rw[<-Td rr];exact i7.of ha
   .cases e
  .cases e⟩
end
section
variable{X:Cx}{p p2 pos aU:Hi}{a b e:Expr}{f:EL}{fa fb:ED}
def Ú:List V->Hp->VK->Prop:=λxs H Q=>∃j:Int,xs=[.int j]/\∀p,H p=none->Q (.ref p) (upd H p (.rng 0 j))
def HB:lC X (.type "range") Ú:=by intro aa s U H xs us Q I r h;obtain⟨j,rfl,q⟩:=h;obtain⟨u,rfl,ru⟩:=l7 r;obtain⟨t,rfl⟩:=ru;exact call_range_1 ⟨.ref s.heap.objs.size,_,I.laid (o:=.rng 0 j) (λb o e=>A8 _ e) (Ad _) ⟨_,_,_,Ak _ rfl⟩,rfl,q _ I.fresh⟩
def kB(lo:Int)(n:Nat):List Int:=(Aa n).map λ(k:Nat)=>lo+(k:Int)
def ϸ:List V->Hp->VK->Prop:=λxs H Q=>∃p,∃j:Int,xs=[.ref p]/\H p=some (.rng 0 j)/\-(2 ^ 62)<=j/\j<=1000000/\∀l,H l=none->Q (.ref l) (upd H l (.lst ((kB 0 j.toNat).map V.int)))
def WY(hc:X.calm=true):lC X (.type "list") ϸ:=by
 intro aa s U H xs us Q I r h;obtain⟨p,j,rfl,hp,h1,h2,q⟩:=h;obtain⟨u,rfl,ru⟩:=l7 r;cases ru;obtain⟨t,u,v,ho⟩:=(show kX X.prog X.w H s.heap p (.rng 0 j) from I.hok p _ hp)
 have hn:Iq 0 j 1=((j.toNat:Nat):Int):=by rw[Ng];split<;>omega
 refine call_list_range (I.ok.hd hc) ho (small_one ⋯ ⋯ h1 ⋯) hn ⋯ λh' tk aT c' hk gW aC=>?_;refine⟨.ref s.heap.objs.size,_,I.laid (o:=.lst ((kB 0 j.toNat).map V.int)) hk (Ad _) ⟨?_,aT.toList,c',?_,?_⟩,rfl,q _ I.fresh⟩
 .unfold kB;rw[A3,A3,At,Bk];omega
 .have hv:∀(n:Nat) (af:List A9) (lo:Nat),af.length=n->(∀(i:Nat) v,af[i]?=some v->∃t,v = .int (0+((lo+i:Nat):Int)*1) t)->Y4 (((Aa n).map λ(k:Nat)=>(0:Int)+((lo+k:Nat):Int)).map V.int) af:=by
   intro n
   induction n with
   |zero=>intro af lo hl _;cases af with|nil=>exact .nil|cons _ _=>cases hl
   |succ n ih=>
    intro af lo hl hg
    cases af with
    |nil=>cases hl
    |cons x af=>
     rw[Gp,Ai,Ai];refine .cons ?_ ?_
     .obtain⟨t,e⟩:=hg 0 x rfl;exact⟨t,by rw[e];simp⟩
     .rw[B2,B2]
      have:=ih af (lo+1) (by simpa using hl) λi v hv=>by obtain⟨t,e⟩:=hg (i+1) v (by simpa using hv);refine⟨t,?_⟩;rw[e];congr 3;omega
      rw[B2]at this;refine Eq.mp (lE (λl=>Y4 l af) (B6 λk _=>?_)) this;simp only[Lz];congr 2;omega
  have:=hv j.toNat aT.toList 0 (by simpa using aC.1) λi v e=>by obtain⟨t,e'⟩:=aC.2 i v (by simpa using e);exact⟨t,by rw[e'];simp⟩
  unfold kB;refine Eq.mp (lE (λl=>Y4 l aT.toList) ?_) this;simp
 .simpa using gW
def oM(f:ED):EL:=λY=>match f Y with|some (.int j)=>if -(2 ^ 62)<=j/\j<=100000 then some ((kB 0 j.toNat).map D.int) else none|_=>none
def HH(hc:X.calm=true)(hm:X.mg "list" = none)(cg:X.mg "range" = none)(h:ZE X a fa)(hg:Gl X "list":=by rfl)(eV:Gl X "range":=by rfl)(he:J0 a=true:=by rfl): ZF X (.Call (.Name "list" p) [.Call (.Name "range" p2) [a] [] aU] [] pos) (oM fa):=
 ⟨have h:=h.h;
 j6 (oN (WY hc) hg hm ‹_› (J7 (oN HB eV cg ‹_› (J7 h Y5 (w9 he)) ∅ ∅ (w9 he) (K7 rfl)) Y5 (w9 rfl)) ∅ ∅ (w9 rfl) (K7 rfl)) λU H Q h_=>by
  refine f7 h_ λY d B H0 V0 Z e r q=>?_;unfold oM at e;split at e
  .rename_i j ej;split at e
   .rename_i hj;cases e;refine⟨Y,_,B,H0,V0,Z,ej,r,λv H' s rr=>?_⟩
    obtain rfl:=v7.mp rr
    refine⟨j,rfl,λp1 cN=>⟨p1,j,rfl,w6,hj.1,⋯,λl hl=>?_⟩⟩;have s1:=u9 (o:=HO.rng 0 j) cN;have s2:=u9 (o:=HO.lst ((kB 0 j.toNat).map V.int)) hl;exact q l _ _ (s.trans (s1.trans s2)) ((s.trans s1).free hl) w6 (Y9.mpr rfl)
   .cases e
  .cases e⟩
def rP:LD:=λds=>match ds with|[.int i,.int j]=>some (.int (if j<i then j else i))|_=>none
def uH:LD:=λds=>match ds with|[.int i,.int j]=>some (.int (if j>i then j else i))|_=>none
def CI{K:A5}{H:Hp}{d e:D}{xs:List V}(h:J3 K H [d,e] xs):∃u v,xs=[u,v]/\e9 K H d u/\e9 K H e v:=by
 obtain⟨u,vs,rfl,h1,h2⟩:=j7.mp h;obtain⟨v,ws,rfl,h3,h4⟩:=j7.mp h2
 obtain rfl:=J9.mp h4
 exact⟨u,v,rfl,h1,h3⟩
def Tf{K:A5}{H:Hp}{d:D}{xs:List V}(h:J3 K H [d] xs):∃u,xs=[u]/\e9 K H d u:=by
 obtain⟨u,vs,rfl,h1,h2⟩:=j7.mp h
 obtain rfl:=J9.mp h2
 exact⟨u,rfl,h1⟩
def UF{K:A5}:pZ K (λxs H Q=>∃i j,xs=[.int i,.int j]/\Q (.int (if j<i then j else i)) H) rP:=by
 intro ds d e Z H vs Q zs rr q;unfold rP at e;split at e
 .rename_i i j;cases e;obtain⟨u,v,rfl,h1,h2⟩:=CI rr
  obtain rfl:=v7.mp h1
  obtain rfl:=v7.mp h2
  exact⟨i,j,rfl,q _ H (J4.refl H) (v7.mpr rfl)⟩
 .cases e
def UE{K:A5}:pZ K (λxs H Q=>∃i j,xs=[.int i,.int j]/\Q (.int (if j>i then j else i)) H) uH:=by
 intro ds d e Z H vs Q zs rr q;unfold uH at e;split at e
 .rename_i i j;cases e;obtain⟨u,v,rfl,h1,h2⟩:=CI rr
  obtain rfl:=v7.mp h1
  obtain rfl:=v7.mp h2
  exact⟨i,j,rfl,q _ H (J4.refl H) (v7.mpr rfl)⟩
 .cases e
def JS(hc:X.calm=true)(hm:X.mg "min" = none)(ha:ZE X a fa)(hb:ZE X b fb)(hg:Gl X "min":=by rfl)(he:J0 a=true:=by rfl)(cP:J0 b=true:=by rfl)(au:[b].all J0=true:=by rfl): ZE X (.Call (.Name "min" p) [a,b] [] pos) (x8 rP (z9 fa (z9 fb Q7))):=
 ⟨have ha:=ha.h;
 have hb:=hb.h;
 CJ (Pg hc) UF hm ‹_› (qW ha (qW hb xI cP) he) hg ∅ ∅ he au⟩
def Ts(hc:X.calm=true)(hm:X.mg "max" = none)(ha:ZE X a fa)(hb:ZE X b fb)(hg:Gl X "max":=by rfl)(he:J0 a=true:=by rfl)(cP:J0 b=true:=by rfl)(au:[b].all J0=true:=by rfl): ZE X (.Call (.Name "max" p) [a,b] [] pos) (x8 uH (z9 fa (z9 fb Q7))):=
 ⟨have ha:=ha.h;
 have hb:=hb.h;
 CJ (Pe hc) UE hm ‹_› (qW ha (qW hb xI cP) he) hg ∅ ∅ he au⟩
def Vu:LD:=λds=>match ds with|[.int i]=>some (.bl (i != 0))|[.bl b]=>some (.bl b)|_=>none
def BD:LD:=λds=>match ds with|[.int i]=>some (.int i)|[.bl b]=>some (.int (if b then 1 else 0))|_=>none
def Ś{K:A5}:pZ K (λxs H Q=>(∃i,xs=[.int i]/\Q (.int i) H)\/∃k,xs=[.bl k]/\Q (.int (if k then 1 else 0)) H) BD:=by
 intro ds d e Z H vs Q zs rr q;unfold BD at e;split at e
 .cases e;obtain⟨u,rfl,h1⟩:=Tf rr
  obtain rfl:=v7.mp h1
  exact .inl ⟨_,rfl,q _ H (J4.refl H) (v7.mpr rfl)⟩
 .cases e;obtain⟨u,rfl,h1⟩:=Tf rr
  obtain rfl:=Q3.mp h1
  exact .inr ⟨_,rfl,q _ H (J4.refl H) (v7.mpr rfl)⟩
 .cases e
def Zb(hm:X.mg "int" = none)(ha:ZE X a fa)(hg:Gl X "int":=by rfl)(he:J0 a=true:=by rfl): ZE X (.Call (.Name "int" p) [a] [] pos) (x8 BD (z9 fa Q7)):=
 ⟨have ha:=ha.h;
 YR XZ Ś hm ‹_› (qW ha xI he) hg ∅ ∅ he rfl⟩
def rO(f:ED):ED:=λY=>match f Y with|some (.int i)=>some (.int (-i))|_=>none
def IY(h:ZE X a fa):ZE X (.UnaryOp .USub a pos) (rO fa):=
 ⟨have h:=h.h;
 j6 (v1Q Ů h) λU H Q h_=>by
  refine f7 h_ λY d B H0 V0 Z e r q=>?_;unfold rO at e;split at e
  .rename_i i ei;cases e;exact⟨Y,_,B,H0,V0,Z,ei,r,λv H' s rr=>⟨i,v7.mp rr,q _ H' s (v7.mpr rfl)⟩⟩
  .cases e⟩
def qK(i:Nat)(f:ED):EO:=λY=>match kK i Y with
 |some ds=>(match f Y with|some d=>if ds.length<f8 then some (.nx (Y.set i (some (.ow (ds++[d]))))) else none|none=>none)
 |none=>none
def o6(i:Nat)(f:EL):EO:=λY=>match kK i Y with
 |some ds=>(match f Y with|some es=>if ds.length+es.length<=f8 then some (.nx (Y.set i (some (.ow (ds++es))))) else none|none=>none)
 |none=>none
def IZ{i:Nat}{x:Ba}{p1 p2 p3:Hi}(h:ZE X a fa)(hN:X.N[i]?=some x:=by rfl)(hv:mS X.env.scope x:=by first|exact E7 rfl|exact D3 (E7 rfl)|exact D3 (D3 rfl))(hd:(x==("__debug__":Ba))=false:=by decide)(aO:(x==("__classdict__":Ba))=false:=by decide)(aD:Fb (.Name x p1) "append" X.env (Ec (.Name x p1) X.env)=Ec (.Name x p1) X.env:=by rfl) (bd:((F0 p3 (Bt [a] X.env)).all (λx=>!x.1)&&(M9 p3 (Iu [] X.env)).all (λx=>x.1.isSome)
   && decide (([a]:List Expr).length+([]:List Hu).length+(if ([]:List Hu).isEmpty then 0 else 1)<30))=true:=by rfl) (aE:(p2.endLine==p3.line)=true:=by rfl) (hs:J0 a=true:=by rfl) (ca:Er (.Call (.Attribute (.Name x p1) "append" p2) [a] [] p3) none pos.line X.env=Ci false:=by rfl): ZS X (.Expr (.Call (.Attribute (.Name x p1) "append" p2) [a] [] p3) pos) (qK i fa):=
 ⟨have h:=h.h;
 mY (AJ (xX Gf PySem.F.slot_list_append PySem.F.type_list_append KF (nW hN hv hd aO) (J7 h Y5 (w9 hs)) aD bd aE (w9 hs) (K7 rfl)) ca) λE U H h_=>by
  refine f7 h_ λY o B H0 V0 Z e r q=>?_;unfold qK at e;split at e
  .rename_i ds aF;split at e
   .rename_i d ed;split at e
    .rename_i hl;cases e;obtain⟨n,xs,h1,h2,hb,h3,h4,h5⟩:=r.ow i ds (tZ aF);refine⟨.ref n,h1,.inl ⟨rfl,xs,i7.of h4⟩,Y,_,B,H0,V0,Z,ed,r,λv H1 s1 r1=>?_⟩;have g5:=h5.mono (x9 s1);refine⟨n,xs,v,rfl,rfl,s1 _ _ h4,by rw[<-h5.length];exact zW (Dc hl),?_⟩
     exact q U _ Z ((r.mono s1).updO (tZ aF) h1 (J3.append g5 (J3.one r1)))
    .cases e
   .cases e
  .cases e⟩
def wL{i:Nat}{x:Ba}{p1 p2 p3:Hi}(h:ZF X a f)(hN:X.N[i]?=some x:=by rfl)(hv:mS X.env.scope x:=by first|exact E7 rfl|exact D3 (E7 rfl)|exact D3 (D3 rfl))(hd:(x==("__debug__":Ba))=false:=by decide)(aO:(x==("__classdict__":Ba))=false:=by decide)(aD:Fb (.Name x p1) "extend" X.env (Ec (.Name x p1) X.env)=Ec (.Name x p1) X.env:=by rfl) (bd:((F0 p3 (Bt [a] X.env)).all (λx=>!x.1)&&(M9 p3 (Iu [] X.env)).all (λx=>x.1.isSome)
   && decide (([a]:List Expr).length+([]:List Hu).length+(if ([]:List Hu).isEmpty then 0 else 1)<30))=true:=by rfl) (aE:(p2.endLine==p3.line)=true:=by rfl) (hs:J0 a=true:=by rfl) (ca:Er (.Call (.Attribute (.Name x p1) "extend" p2) [a] [] p3) none pos.line X.env=Ci false:=by rfl): ZS X (.Expr (.Call (.Attribute (.Name x p1) "extend" p2) [a] [] p3) pos) (o6 i f):=
 ⟨have h:=h.h;
 mY (AJ (xX Gf PySem.F.slot_list_extend PySem.F.type_list_extend Yr (nW hN hv hd aO) (J7 h Y5 (w9 hs)) aD bd aE (w9 hs) (K7 rfl)) ca) λE U H h_=>by
  refine f7 h_ λY o B H0 V0 Z e r q=>?_;unfold o6 at e;split at e
  .rename_i ds aF;split at e
   .rename_i es ee;split at e
    .rename_i hl;cases e;obtain⟨n,xs,h1,h2,hb,h3,h4,h5⟩:=r.ow i ds (tZ aF);refine⟨.ref n,h1,.inl ⟨rfl,xs,i7.of h4⟩,Y,_,B,H0,V0,Z,ee,r,λl ys H1 s1 hn bn r1=>?_⟩;have g5:=h5.mono (x9 s1);refine⟨n,l,xs,ys,rfl,rfl,s1 _ _ h4,bn,by rw[<-h5.length,<-r1.length];exact vL hl,?_⟩
     exact q U _ Z ((r.mono s1).updO (tZ aF) h1 (J3.append g5 (r1.mono (qD λb hb=>A7 _ hb))))
    .cases e
   .cases e
  .cases e⟩
end
def VB:fillsNumberSlot (.type "tuple") "mul" = Ci false:=PySem.fillsNumberSlot_seq (id:="tuple.__mul__") (r:=some (.builtin "tuple.__rmul__")) F.slot_tuple_mul.lookup ‹_› F.slot_tuple_rmul.lookup ‹_›
def WB:seqRepeat? (.type "tuple")=Ci (some (.builtin "tuple.__mul__")):=by unfold seqRepeat?;rw[PySem.seqSlot_of (T:="tuple") (name:="__mul__") (id:="tuple.__mul__") F.slot_tuple_mul.lookup ‹_›,PySem.seqSlot_of (T:="tuple") (name:="__rmul__") (id:="tuple.__rmul__") F.slot_tuple_rmul.lookup ‹_›];rfl
def ė(l:As)(items:Array A9)(n:Nat)(dd:Option As)(sl:Array (Option A9))(x:Int)(t:Tok)(h1:(decide (x < -(2 ^ 63))||decide (x>=2 ^ 63))=false)(h2:(items.isEmpty||x==1)=false)(h3:(decide (x<=0)||items.isEmpty)=true)(hz:¬(#[]:Array A9).size>sizeLine):
  Oo (C1.«tuple.__mul__» ⟨[.ref l,.int x t],[]⟩) (λ_ R s=>s.heap.get? l=some { cls:=.type "tuple",dict:=dd,data:=.seq items n,slots:=sl }/\R (.ok (.ret (.ref s.heap.objs.size))) { s with heap:=s.heap.push { cls:=C4 "tuple",data:=Jc #[] } }):=
 .of_wp λprog w A R s h=>by obtain⟨hp,g,d,tk,os⟩:=s;obtain⟨hl,h⟩:=h;wp_walk;refine Ms (W4 (by rw[h1];exact Ay)) ?_;wp_walk;exact⟨_,rfl,h⟩
def ę(l:As)(items:Array A9)(n:Nat)(dd:Option As)(sl:Array (Option A9))(x:Int)(t:Tok)(h1:(decide (x < -(2 ^ 63))||decide (x>=2 ^ 63))=false)(h2:(items.isEmpty||x==1)=false)(h3:(decide (x<=0)||items.isEmpty)=false)(h4:¬(items.size:Int)*x>(2 ^ 63-1) / 8)(h5:C1.Tuple.tupleTooMany ((items.size:Int)*x)=false)(h6:¬(Nt (λx1 x2=>x1++x2) #[] (Bf x.toNat items)).size>sizeLine):
  Oo (C1.«tuple.__mul__» ⟨[.ref l,.int x t],[]⟩) (λ_ R s=>s.heap.get? l=some { cls:=.type "tuple",dict:=dd,data:=.seq items n,slots:=sl }/\R (.ok (.ret (.ref s.heap.objs.size))) { s with heap:=s.heap.push { cls:=C4 "tuple",data:=Jc (Nt (λx1 x2=>x1++x2) #[] (Bf x.toNat items)) } }):=
 .of_wp λprog w A R s h=>by obtain⟨hp,g,d,tk,os⟩:=s;obtain⟨hl,h⟩:=h;wp_walk;refine Ms (W4 (by rw[h1];exact Ay)) ?_;wp_walk;refine Ms (W4 h4) ?_;wp_walk;exact⟨_,rfl,h⟩
def Xy(a:Int)(t:Tok)(l:As)(items:Array A9)(n:Nat)(dd:Option As)(sl:Array (Option A9)):
  Oo (C1.«int.__rmul__» ⟨[.int a t,.ref l],[]⟩) (λ_ R s=>s.heap.get? l=some { cls:=.type "tuple",dict:=dd,data:=.seq items n,slots:=sl }/\R (.ok (.ret Kc)) s):=
 .of_wp λprog w A R s h=>by obtain⟨hp,g,d,tk,os⟩:=s;obtain⟨hl,h⟩:=h;wp_walk;exact⟨_,rfl,h⟩
def Ę(l:As)(items:Array A9)(n:Nat)(dd:Option As)(sl:Array (Option A9))(t:Tok):
  Oo (C1.«tuple.__mul__» ⟨[.ref l,.int 1 t],[]⟩) (λ_ R s=>s.heap.get? l=some { cls:=.type "tuple",dict:=dd,data:=.seq items n,slots:=sl }/\R (.ok (.ret (.ref l))) s):=
 .of_wp λprog w A R s h=>by obtain⟨hp,g,d,tk,os⟩:=s;obtain⟨hl,h⟩:=h;wp_walk;exact⟨_,rfl,h⟩
def TU(K:A5):R2:=λx y H Q=>∃a k xs,x = .ref a/\y = .int k/\i8 K H a xs/\xs≠[]/\-(2 ^ 63)<=k/\k<2 ^ 63/\xs.length*k.toNat<=1000000 /\
 (k=1->Q (.ref a) H)/\(k≠1->∀p,H p=none->Q (.ref p) (upd H p (.tup (Bf k.toNat xs).flatten)))
section
variable{X:Cx}
def Ì:kO X (Hj .Mult) (TU X.K):=by
 intro aa s U H x y v u Q I rx ry h;obtain⟨a,k,xs,rfl,rfl,ha,am,h1,h2,hz,q1,q2⟩:=h;cases rx;obtain⟨t,rfl⟩:=ry;obtain⟨its,r,p,_⟩:=I.tuple ha;have hl:=r.length;obtain⟨⟨cls,dd,data,sl⟩,ho,hc,n,hd⟩:=id p;simp only at hc hd;subst hc hd;have hne':its≠[]:=λz=>am (r.nil_iff.mp z)
 have he:its.toArray.isEmpty=false:=by
  cases its with
  |nil=>exact u3 rfl hne'
  |cons _ _=>rfl
 have b1:(decide (k < -(2 ^ 63))||decide (k>=2 ^ 63))=false:=by rw[W4 ⋯,W4 ⋯];rfl
 refine wpAny_binaryOp_repeat_ref (T:="tuple") (U:="int") ∅ ⟨_,ho,rfl⟩ (λs'=>typeIs_int s' k t) VB F.fills_int_mul F.slot_int_rmul WB F.slot_int_index.lookup
  (Js F.slot_int_rmul (typeIs_int s k t) F.entry_int_rmul (F.args_int_rmul_2 _ _) (Xy k t a its.toArray n dd sl) ⟨ho,rfl,⟨_,ho,rfl⟩,?_⟩)
 by_cases hk:k=1
 .subst hk;exact Js F.slot_tuple_mul ⟨_,ho,rfl⟩ F.entry_tuple_mul (F.args_tuple_mul_2 _ _) (Ę a its.toArray n dd sl t) ⟨ho,⟨.ref a,H,I,rfl,q1 rfl⟩⟩
 .have b2:(its.toArray.isEmpty||k==1)=false:=by rw[he,M0];exact beq_eq_false_iff_ne.mpr hk
  by_cases h0:k<=0
  .refine Js F.slot_tuple_mul ⟨_,ho,rfl⟩ F.entry_tuple_mul (F.args_tuple_mul_2 _ _) (ė a its.toArray n dd sl k t b1 b2 (by rw[Y1 h0];rfl) (by simp)) ⟨ho,?_⟩
   have e0:k.toNat=0:=by omega
   have:=q2 hk s.heap.objs.size I.fresh
   rw[e0]at this;exact⟨.ref _,_,I.laid (o:=.tup []) (t':=s.toks) (λb o e=>A8 _ e) (Ad _) ⟨Bh _,[],.nil,o5.new _ _⟩,rfl,this⟩
  .have hsz:((its.toArray.size:Nat):Int)*k<=1000000:=by
    rw[Af,<-hl]
    have e1:k=((k.toNat:Nat):Int):=by omega
    rw[e1]
    have:((xs.length*k.toNat:Nat):Int)<=1000000:=Int.ofNat_le.mpr hz
    rw[Int.natCast_mul]at this;exact this
   have f0:Nt (λx1 x2=>x1++x2) #[] (Bf k.toNat its.toArray)=(Bf k.toNat its).flatten.toArray:=by
    have:=Pm its k.toNat []
    rw[Kj]at this;exact this
   have ab:(Bf k.toNat xs).flatten.length<=sizeLine:=by rw[Á,Nat.mul_comm,Bk];omega
   refine Js F.slot_tuple_mul ⟨_,ho,rfl⟩ F.entry_tuple_mul (F.args_tuple_mul_2 _ _) (ę a its.toArray n dd sl k t b1 b2 (by rw[W4 h0,he];rfl) ⋯ (by unfold C1.Tuple.tupleTooMany;rw[Bk];exact W4 ⋯) ?_) ⟨ho,?_⟩
   .rw[f0,Af,<-(r.rep k.toNat).length];omega
   .rw[f0];exact⟨.ref _,_,I.laid (o:=.tup (Bf k.toNat xs).flatten) (t':=s.toks) (λb o e=>A8 _ e) (Ad _) ⟨ab,_,r.rep k.toNat,o5.new _ _⟩,rfl,q2 hk _ I.fresh⟩
def LR:D->D->Option D:=λx y=>match x,y with
 | .tup ds,.int k=>if ds≠[]/\-(2 ^ 63)<=k/\k<2 ^ 63/\ds.length*k.toNat<=f8 then some (.tup (Bf k.toNat ds).flatten) else none
 |_,_=>none
def á{K:A5}:lP K (TU K) LR:=by
 intro x y d e Z H u v Q zs hx hy q;unfold LR at e;split at e
 .rename_i ds k;split at e
  .rename_i hh;obtain⟨am,h1,h2,hl⟩:=hh;cases e;obtain⟨a,us,rfl,g1,g2⟩:=j5.mp hx
   obtain rfl:=v7.mp hy
   have ab:=g2.length;refine⟨a,k,us,rfl,rfl,j9 v4 g1,λz=>am (F1 (by rw[ab,z];rfl)),h1,h2,by rw[<-ab];unfold f8 at hl;omega,λe1=>?_,λe1 p hp=>?_⟩
   .subst e1
    have:(Bf (1:Int).toNat ds).flatten=ds:=by simp
    rw[this]at q;exact q _ H (J4.refl H) hx
   .have sn:=u9 (o:=HO.tup (Bf k.toNat us).flatten) hp;refine q _ _ sn (j5.mpr ⟨p,_,rfl,i8.of ?_,(g2.rep k.toNat).mono (x9 sn)⟩);rw[K8 (SW zs hp)];exact w6
  .cases e
 .cases e
def oR:D->D->Option D:=λx y=>match FE x y with|some d=>some d|none=>LR x y
variable{a b:Expr}{fa fb:ED}{pos:Hi}
def ES(ha:ZE X a fa)(hb:ZE X b fb):ZE X (.BinOp a .Mult b pos) (d2 oR fa fb):=
 ⟨have ha:=ha.h;
 have hb:=hb.h;
 Ax (Ŀ.or Ì) (lP.or ŝ á) ha hb⟩
end
def oJ(N:List Ba)(ds:List D):J5:=ds.map (λd=>some (Cell.sh d))++Bf (N.length-ds.length) none
def lM:Option Out->Option D
 |some (.rt d)=>some d
 |some (.nx _)=>some .non
 |_=>none
def JN{K:A5}{Z:List As}{H:Hp}{N:List Ba}{ds:List D}{vs:List V}(zs:TB K H/\∀z∈Z,∃o,H z=some o)(rr:J3 K (K0 Z H) ds vs):SR K Z H (K0 Z H) H Z (start N vs) (oJ N ds):=by
 have hl:=rr.length
 have get:∀{i:Nat} {c:Cell},(oJ N ds)[i]?=some (some c)->∃d,ds[i]?=some d/\c = .sh d:=λ{i c} q=>by
  unfold oJ at q;by_cases hi:i<ds.length
  .rw[Do (by simpa using hi),Ao]at q
   cases e:ds[i]? with
   |none=>rw[e]at q;cases q
   |some d=>rw[e]at q;cases q;exact⟨d,rfl,rfl⟩
  .rw[Fi (by simpa using hi),List.getElem?_replicate]at q;split at q<;>cases q
 refine⟨J4.refl H,zs.1,λ_ _ h=>h,λb hb=>hb,zs.2,λi d q=>?_,λi c q=>?_,λi j c e a q1 q2=>?_,?_⟩
 .obtain⟨d',e,z⟩:=get q;cases z;obtain⟨v,e1,r1⟩:=rr.get e;refine⟨v,?_,r1⟩;have hi:i<vs.length:=(B0.mp e1).1;unfold L2.start;rw[Do (by simpa using hi),Ao,e1];rfl
 .obtain⟨d',e,z⟩:=get q;exact(oY z.symm).elim
 .obtain⟨d',e,z⟩:=get q1;exact(oY z.symm).elim
 .unfold L2.start oJ;rw[Ap,Ap,A3,A3,Jp,Jp,hl]
def Rn{P:Bs}{w:Ce}{K:A5}{mg:Ba->Option A9}{base:Ch}{x:Ba}{st:Dl}{f:As}{fd:Gt}{N ps:List Ba}{k:Nat}{g:EO}{F:LD}(G:rW K x x st f fd)(S:jD N ps (u5 st))(len:∀ds d,F ds=some d->ds.length=ps.length)(hF:∀ds d,F ds=some d->lM (g (oJ N ds))=some d)
  (ap:∀(ah:A9) (A:Bz) (outer:List O7) (s:Ae) (H:Hp) (E:XK),d8 k (A.deeper (Jr x (u5 st) s.heap.objs.size f ah)) ->
   GG (oQ mG P w K mg base N x (u5 st) f ah A outer s H E).nox (l9 st) g):kD P w K mg base mG (k+1) f fd ps (sV K F):=by
 refine G.ok S (λvs H Q E h=>?_) λah A outer s H vs Q E hr h=>?_
 .obtain⟨Z,ds,d,zs,rr,e,q⟩:=h;rw[<-rr.length];exact len ds d e
 .obtain⟨Z,ds,d,zs,rr,e,q⟩:=h;have e2:=hF ds d e;refine⟨_,ap ah A outer s H E hr,?_⟩
  cases ho:g (oJ N ds) with
  |none=>rw[ho]at e2;cases e2
  |some o=>
   refine⟨oJ N ds,o,Z,H,K0 Z H,Z,ho,JN zs rr,?_⟩;rw[ho]at e2
   cases o with
   |rt d'=>cases e2;exact λv H' s' rv=>q v H' s' rv
   |nx Y=>cases e2;exact λU H' Z' r'=>q .non H' r'.same (mJ.mpr rfl)
   |bk _=>cases e2
   |ct _=>cases e2
def rY(sc outer:Scope)(N:List Ba)(cap:List (Option Nat))(M:List Ba):Bool:=
 (sc.kind==.function)&&(sc.names.all λy=>if y.2==.cell then sc.names.lookup y.1==some .cell else true)&&(sc.names.all λy=>if y.2==.local then sc.names.lookup y.1==some .local else true) &&
 (sc.names.all λy=>if y.2==.free then sc.names.lookup y.1==some .free&&(outer.names.lookup y.1==some .cell||outer.names.lookup y.1==some .free) else true) &&
 ((Aa cap.length).all λi=>match cap[i]? with|some (some j)=>(match N[i]? with|some x=>(match M[j]? with|some y=>x==y&&sc.names.lookup x==some .free|none=>false)|none=>false)|_=>true) &&
 (cap.length==N.length)&&((Aa cap.length).all λi=>(Aa cap.length).all λj=>match cap[i]? with|some (some k)=>(match cap[j]? with|some (some k')=>if k==k' then i==j else true|_=>true)|_=>true)
structure BP(sc outer:Scope)(N:List Ba)(cap:List (Option Nat))(M:List Ba):Prop where
 kind:sc.kind = .function
 cell:∀y∈sc.names,y.2 = .cell->sc.names.lookup y.1=some .cell
 loc:∀y∈sc.names,y.2 = .local->sc.names.lookup y.1=some .local
 fre:∀y∈sc.names,y.2 = .free->sc.names.lookup y.1=some .free
 out:∀y∈sc.names,y.2 = .free->outer.names.lookup y.1=some .cell\/outer.names.lookup y.1=some .free
 sel:∀(i j:Nat),cap[i]?=some (some j)->∃x,N[i]?=some x/\M[j]?=some x/\sc.names.lookup x=some .free
 len:cap.length=N.length
 inj:∀(i j k:Nat),cap[i]?=some (some k)->cap[j]?=some (some k)->i=j
def AQ(hok:rY sc outer N cap M=true):BP sc outer N cap M:=by
 unfold rY at hok;simp only[B8]at hok;obtain⟨⟨⟨⟨⟨⟨h1,h2⟩,h3⟩,h4⟩,h5⟩,h6⟩,h7⟩:=hok;rw[Fg]at h2 h3 h4 h5 h7;refine⟨by simpa using h1,λy hy e=>by have z:=h2 y hy;rw[e]at z;simpa using z,λy hy e=>by have z:=h3 y hy;rw[e]at z;simpa using z,λy hy e=>?_,λy hy e=>?_,λi j e=>?_,by simpa using h6,λi j k e1 e2=>?_⟩
 .have z:=h4 y hy;rw[e]at z;simp only[beq_self_eq_true,if_true,B8]at z;simpa using z.1
 .have z:=h4 y hy;rw[e]at z;simp only[beq_self_eq_true,if_true,B8,Ki]at z;simpa using z.2
 .have z:=h5 i (Am.mpr (B0.mp e).1);rw[e]at z;dsimp only at z
  cases hn:N[i]? with
  |none=>rw[hn]at z;cases z
  |some x=>
   rw[hn]at z;dsimp only at z
   cases hm:M[j]? with
   |none=>rw[hm]at z;cases z
   |some y=>rw[hm]at z;simp only[B8,beq_iff_eq]at z;obtain⟨rfl,z2⟩:=z;exact⟨x,rfl,rfl,z2⟩
 .have z:=h7 i (Am.mpr (B0.mp e1).1);rw[Fg]at z;have z2:=z j (Am.mpr (B0.mp e2).1);rw[e1,e2]at z2;simpa using z2
def xW(sc outer:Scope)(N:List Ba)(cap:List (Option Nat))(M:List Ba):Bool:=rY sc outer N cap M&&(sc.names.all λy=>y.2 != .cell)
section
variable{X:Cx}{pos:Hi}
def K9(N:List Ba)(cap:List (Option Nat))(hc:X.calm=true)(hi:GE X ae ag fi)(hg:N.Nodup->∀cl C fp s H,ZG (Y6 X N scope cl C fp s H) ae h)(ht:∀cl C fp s H,ZP (Y6 X N scope cl C fp s H) bc ft)(he:∀cl C fp s H,ZE (Y6 X N scope cl C fp s H) ba fe)(hok:rY scope X.env.scope N cap X.N=true:=by rfl)(hs:∀x,Cu ag X.env x=Ci x:=by intro _;rfl)(nd:N.Nodup:=by decide +kernel):ZF X (.ListComp ba [⟨ae,ag,bc,0⟩] scope pos) (Q5 cap fi h ft fe):=by have hg:=hg nd;have hi:=hi.h;have hg:=λcl C fp s H=>(hg cl C fp s H).h;have ht:=λcl C fp s H=>(ht cl C fp s H).h;have he:=λcl C fp s H=>(he cl C fp s H).h;refine⟨?_⟩;have c:=AQ hok;exact í (N:=N) (cap:=cap) hc hi hg ht he c.kind c.cell c.loc c.fre c.out c.sel c.len c.inj hs
def nC:ZP X [] lH:=
 ⟨λaa s U H Q I h_=>by
 refine f7 h_ λY b B H0 V0 Z e r q=>?_;cases e
 exact JI aa s U H Q I (q H (J4.refl H))⟩
def pP(h:ZT X c f):ZP X [c] f:=
 ⟨have h:=h.h;
 ϲ h⟩
def tQL(K:A5)(f:EL):TE:=λU H Q=>∃Y ds B H0 V0 Z,f Y=some ds/\SR K B H0 V0 H Z U Y/\∀a xs H',J4 H H'->i7 K H' a xs->J3 K (K0 Z H') ds xs->Q (.ref a) H'
abbrev SQL(X:Cx)(e:Expr)(f:EL):Prop:=PE X e (tQL X.K f)
structure BI(X:Cx)(e:Expr)(f:EL):Prop where
 h:SQL X e f
def yA(h:ZF X e f):BI X e f:=
 ⟨have h:=h.h;
 j6 h λU H Q ⟨Y,ds,B,H0,V0,Z,e,r,q⟩=>
  ⟨Y,ds,B,H0,V0,Z,e,r,λa xs H' s hn ha hr=>q a xs H' s (i7.of ha) (hr.mono (qD λb hb=>A7 _ hb))⟩⟩
def ö(ha:BI X a fa)(hb:BI X b fb):ZF X (.BinOp a .Add b pos) (LP fa fb):=
 ⟨have ha:=ha.h;
 have hb:=hb.h;
 j6 (TL RF ha hb) λU H Q h_=>by
  refine f7 h_ λY ds B H0 V0 Z e r q=>?_;unfold LP at e;split at e
  .rename_i xs ex;split at e
   .rename_i ys ey;split at e
    .rename_i hl;cases e;refine⟨Y,xs,B,H0,V0,Z,ex,r,λn us H1 s1 jm r1=>⟨Y,ys,B,H0,V0,Z,ey,r.mono s1,λm ws H2 s2 iQ r2=>⟨n,m,us,ws,rfl,rfl,s2.seq jm,iQ,by rw[<-r1.length,<-r2.length];exact vL hl,λl bR=>?_⟩⟩⟩
     exact q l _ _ (s1.trans (s2.trans (u9 bR))) ((s1.trans s2).free bR) w6 ((J3.append (r1.mono (x9 s2)) r2).mono (rC bR (u9 bR)))
    .cases e
   .cases e
  .cases e⟩
end
structure jO(P:Bs)(w:Ce)(K:A5)(mg:Ba->Option A9)(base:Ch)(k:Nat)(x:Ba)(ps:List Ba)(F:LD):Prop where
 ex:∃f fd,kD P w K mg base mG k f fd ps (sV K F)/\mg x=some (.ref f)/\Fh K (.ref f)=true/\uB K fd ps []
def v5{X:Cx}{e:Expr}{es:List Expr}(G:jO X.prog X.w X.K X.mg X.base j x ps F)(hr:d8 k X.A)(ha:ZA X (e::es) g)(hjk:j<=k:=by decide)(hg:Gl X x:=by rfl)(bG:(x==("__debug__":Ba))=false:=by decide)(he:J0 e=true:=by rfl)(au:es.all J0=true:=by rfl):ZE X (.Call (.Name x p) (e::es) [] pos) (x8 F g):=by have ha:=ha.h;refine⟨?_⟩;obtain⟨f,fd,h1,h2,h3,h4⟩:=G.ex;exact è h1 (hr.mono hjk) h2 h3 h4 ha hg bG he au
structure b8(K:A5)(mg:Ba->Option A9)(x:Ba)(st:Dl):Prop where
 ex:∃f fd,rW K x x st f fd/\mg x=some (.ref f)
def Yc{P:Bs}{w:Ce}{K:A5}{mg:Ba->Option A9}{base:Ch}{x:Ba}{st:Dl}{N ps:List Ba}{k:Nat}{g:EO}{F:LD}(G:b8 K mg x st)(S:jD N ps (u5 st))(len:∀ds d,F ds=some d->ds.length=ps.length)(hF:∀ds d,F ds=some d->lM (g (oJ N ds))=some d)(hb:∀(kV az pm:A9) (an:Option As) (ah ct:A9) (us:List A9),us.length=ps.length->Gu (E3 x x (pQ st) (l9 st) (u5 st) .none kV az pm an ah ct) ⟨us,[]⟩=Ci (ps.zip us))
  (ap:∀(f:As) (ah:A9) (A:Bz) (outer:List O7) (s:Ae) (H:Hp) (E:XK),d8 k (A.deeper (Jr x (u5 st) s.heap.objs.size f ah)) ->
   GG (oQ mG P w K mg base N x (u5 st) f ah A outer s H E).nox (l9 st) g):jO P w K mg base (k+1) x ps F:=by
 obtain⟨f,fd,G1,G2⟩:=G.ex;exact⟨f,fd,Rn G1 S len hF (ap f),G2,G1.kp,G1.binds hb⟩
def tX(K:A5)(f:J5->Option (D×J5)):TE:=λU H Q=>∃Y d Y' B H0 V0 Z,f Y=some (d,Y')/\SR K B H0 V0 H Z U Y/\∀v H',SR K B H0 V0 H' Z U Y'->e9 K (K0 Z H') d v->Q v H'
abbrev SX(X:Cx)(e:Expr)(f:J5->Option (D×J5)):Prop:=PE X e (tX X.K f)
structure ZX(X:Cx)(e:Expr)(f:J5->Option (D×J5)):Prop where
 h:SX X e f
def yF(i:Nat)(f:ED):J5->Option (D×J5):=λY=>match kK i Y with
 |some ds=>(match f Y with
  |some (.int j)=>(match qO ds.length j with
   |some k=>(match ds[k]? with|some d=>if ds.length<=f8 then some (d,Y.set i (some (.ow (ds.eraseIdx k)))) else none|none=>none)
   |none=>none)
  |_=>none)
 |none=>none
def tR(K:A5)(f:EL):TE:=λU H Q=>∃Y ds B H0 V0 Z,f Y=some ds/\SR K B H0 V0 H Z U Y/\∀a xs H',J4 H0 H'->i7 K H' a xs->J3 K (K0 B H') ds xs->(∀b∈B,∃o,H' b=some o)->Q (.ref a) H'
abbrev SL(X:Cx)(e:Expr)(f:EL):Prop:=PE X e (tR X.K f)
structure ZL(X:Cx)(e:Expr)(f:EL):Prop where
 h:SL X e f
section
variable{X:Cx}{pos:Hi}
def Ū{i:Nat}{call:Expr}{f:ED}(h:PE X call (Vq X.K "list" UC (AZ i) (MG (tD X.K f) FW))):SX X call (yF i f):=
 j6 h λU H Q h_=>by
  obtain⟨Y,d,Y',B,H0,V0,Z,e,r,q⟩:=h_;unfold yF at e;split at e
  .rename_i ds aF;split at e
   .rename_i j ej;split at e
    .rename_i k ek;split at e
     .rename_i d' ed;split at e
      .rename_i hz;cases e;obtain⟨n,xs,h1,h2,hb,h3,h4,h5⟩:=r.ow i ds (tZ aF);refine⟨.ref n,h1,.inl ⟨rfl,xs,i7.of h4⟩,Y,_,B,H0,V0,Z,ej,r,λv H1 s1 r1=>?_⟩
       obtain rfl:=v7.mp r1
       have R1:=r.mono s1;have g5:=h5.mono (x9 s1);obtain⟨y,hy,ry⟩:=g5.get ed;have hl:=h5.length;obtain⟨q1,q2,q3,q4⟩:=Rt ek
       have big:(ds.length:Int)<2 ^ 63:=by
        have:ds.length<=100000:=hz
        omega
       refine⟨n,xs,j,k,y,rfl,rfl,s1 _ _ h4,⋯,⋯,by rw[<-hl];exact q1,hy,?_⟩
       have vs:J4 (K0 Z H1) (K0 Z (upd H1 n (.lst (xs.eraseIdx k)))):=qY h2;exact q y _ (R1.updO (tZ aF) h1 (g5.eraseIdx k)) (ry.mono vs)
      .cases e
     .cases e
    .cases e
   .cases e
  .cases e
def r8(h:D->J5->Option J5)(fe:J5->Option (D×J5)):J5->List D->Option (List D)
 |_,[]=>some []
 | Y,d::ds=>match h d Y with
  |none=>none
  |some Y1=>match fe Y1 with
   |some (y,Y2)=>(match r8 h fe Y2 ds with|some ys=>some (y::ys)|none=>none)
   |none=>none
def zR(cap:List (Option Nat))(fi:EL)(h:D->J5->Option J5)(fe:J5->Option (D×J5)):EL:=λY=>match fi Y with
 |some ds=>if ds.length<=f8 then r8 h fe (mD cap Y) ds else none
 |none=>none
def SR.base{K:A5}{B Z:List As}{H0 V0 H:Hp}{U:St}{Y:J5}(r:SR K B H0 V0 H Z U Y){l:As}{o:HO}(hl:H l=some o)(hn:H0 l=none)(cp:∀(j:Nat) (es:OC) a,Y[j]?=some (some es.cell)->U[j]?=some (some (.ref a))->a≠l):SR K B (upd H0 l o) V0 H Z U Y:=
 ⟨λb u e=>by
   by_cases z:b=l
   .subst z;rw[w6]at e;cases e;exact hl
   .rw[j3 z]at e;exact r.same b u e,
  r.tb,r.vis,r.sub,r.zs,r.sh,λj es hj=>by
   obtain⟨a,xs,t1,t2,tb,t3,t4,t5⟩:=r.own j es hj
   exact⟨a,xs,t1,t2,tb,by rw[j3 (cp j es a hj t1)];exact t3,t4,t5⟩,r.inj,r.len⟩
def SR.unbase{K:A5}{B Z:List As}{H0 V0 H:Hp}{U:St}{Y:J5}{l:As}{o:HO}(r:SR K B (upd H0 l o) V0 H Z U Y)(hn:H0 l=none):SR K B H0 V0 H Z U Y:=
 ⟨λb u e=>r.same b u (by rw[j3 (λz=>by rw[z,hn]at e;cases e)];exact e),r.tb,r.vis,r.sub,r.zs,r.sh,λj es hj=>by
   obtain⟨a,xs,t1,t2,tb,t3,t4,t5⟩:=r.own j es hj
   have na:a≠l:=λz=>by rw[z,w6]at t3;cases t3
   exact⟨a,xs,t1,t2,tb,by rw[j3 na]at t3;exact t3,t4,t5⟩,r.inj,r.len⟩
def Ze{ba ae ag:Expr}{scope:Scope}{fi:EL}{h:D->J5->Option J5}{fe:J5->Option (D×J5)}(N:List Ba)(cap:List (Option Nat))(hc:X.calm=true)(hi:ZI X ae ag fi)(hg:N.Nodup->∀cl C fp s H,ZG (Y6 X N scope cl C fp s H) ae h)(he:∀cl C fp s H,ZX (Y6 X N scope cl C fp s H) ba fe)(hok:rY scope X.env.scope N cap X.N=true:=by rfl)(hs:∀x,Cu ag X.env x=Ci x:=by intro _;rfl)(nd:N.Nodup:=by decide +kernel):ZL X (.ListComp ba [⟨ae,ag,[],0⟩] scope pos) (zR cap fi h fe):=by
 have hg:=hg nd;have hi:=hi.h;have hg:=λcl C fp s H=>(hg cl C fp s H).h;have he:=λcl C fp s H=>(he cl C fp s H).h;refine⟨?_⟩;have c:=AQ hok;have cr:=c.inj;refine j6 (RJ (N:=N) (cap:=cap) (g:=tG X.K h) (te:=tX X.K fe) hc hi hg (λcl C fp s H=>JI) he c.kind c.cell c.loc c.fre c.out c.sel c.len hs) λU H Q ⟨Y,zs,B,H0,V0,Z,e,r,q⟩=>?_
 .unfold zR at e;split at e
  .rename_i ds aF;split at e
   .rename_i hl;refine⟨Y,ds,B,H0,V0,Z,aF,r,λJ H1 s1 wk l bn=>?_⟩;have R1:=r.mono s1;have n0:H0 l=none:=R1.same.free bn;have sl:J4 H1 (upd H1 l (.lst [])):=u9 bn;have R2:SR X.K B H0 (K0 Z H1) (upd H1 l (.lst [])) (l::Z) (mE cap U) (mD cap Y):=AN cr ((R1.vis' (λ_ _ h=>h)).more bn sl w6)
    have noL:∀{H':Hp} {U':St} {Y':J5} {o:HO},SR X.K B (upd H0 l o) (K0 Z H1) H' (l::Z) U' Y'->∀(j:Nat) (es:OC) a,Y'[j]?=some (some es.cell)->U'[j]?=some (some (.ref a))->a≠l:=λr' j es a hj bz z=>by obtain⟨a',xs,t1,_,_,t3,_⟩:=r'.own j es hj;rw[bz]at t1;cases t1;rw[z,w6]at t3;cases t3
    have R3:SR X.K B (upd H0 l (.lst [])) (K0 Z H1) (upd H1 l (.lst [])) (l::Z) (mE cap U) (mD cap Y):=by refine R2.base w6 n0 λj es a hj bz z=>?_;have rc:=AN cr R1;obtain⟨a',xs,t1,_,_,_,t4,_⟩:=rc.own j es hj;rw[bz]at t1;cases t1;rw[z,bn]at t4;cases t4
    refine⟨λi m U' H' af=>m=ds.length-i/\i<=ds.length/\af.length<=i/\∃Y' ys ws,SR X.K B (upd H0 l (.lst af)) (K0 Z H1) H' (l::Z) U' Y'/\J3 X.K (K0 (l::Z) H') ys af/\r8 h fe Y' (ds.drop i)=some ws/\zs=ys++ws/\J3 X.K (K0 Z H1) [] [],
     ⟨_,rfl,Bh _,Ad _,mD cap Y,[],zs,R3,J3.nil,e,rfl,J3.nil⟩,?_⟩
    rintro i m U' H' af ⟨rfl,bL,ju,Y',ys,ws,r',ry,e',ez,_⟩;have vis:J4 (K0 Z H1) H':=r'.vis.trans v4;have aC:H' l=some (.lst af):=r'.same l _ w6;by_cases ak:i<ds.length
    .refine .inr ⟨wk.go H' vis i ak,zW (C7 ju (C7 bL hl)),λx H3 hy=>?_⟩;obtain⟨sH,hx⟩:=wk.yld H' vis i x H3 hy;have hd:=hx ds[i] (A4 ak) (l::Z) r'.zs r'.vis;have r':=r'.mono sH;have ry:=ry.mono (x9 sH);rw[Fs ak]at e';unfold r8 at e';split at e'
     .cases e'
     .rename_i Y1 e1;refine⟨Y',ds[i],Y1,B,upd H0 l (.lst af),K0 (l::Z) H3,l::Z,e1,r'.vis' (λ_ _ h=>h),hd,λU4 r4=>sT ?_⟩;split at e'
      .rename_i y Y2 ey;split at e'
       .rename_i yy eyy;cases e';refine⟨Y1,y,Y2,B,upd H0 l (.lst af),K0 (l::Z) H3,l::Z,ey,r4,λv H6 r6 rv=>⟨r6.same l _ w6,ds.length-(i+1),⋯,rfl,ak,?_,Y2,ys++[y],yy,?_,?_,eyy,by rw[ez];simp,J3.nil⟩⟩
        .rw[Ap];simpa using ju
        .have R6:=(r6.vis' (r'.vis.trans r6.vis)).unbase n0;have vs:J4 (K0 (l::Z) H6) (K0 (l::Z) (upd H6 l (.lst (af++[v])))):=qY A6;have na:=noL (r6.vis' (V1:=K0 Z H1) (r'.vis.trans r6.vis))
         have R7:SR X.K B H0 (K0 Z H1) (upd H6 l (.lst (af++[v]))) (l::Z) U4 Y2:=by
          refine⟨t7 n0 R6.same,R6.tb.upd (r6.same l _ w6) (λ_ z=>by cases z),R6.vis.trans vs,R6.sub,λz hz=>?_,λj d hj=>let ⟨u,t1,t2⟩:=R6.sh j d hj;⟨u,t1,t2.mono vs⟩,λj es hj=>?_,R6.inj,R6.len⟩
          .by_cases il:z=l
           .subst il;exact⟨_,w6⟩
           .obtain⟨o',br⟩:=R6.zs z hz;exact⟨o',by rw[j3 il];exact br⟩
          .obtain⟨a,xs,t1,t2,tb,t3,t4,t5⟩:=R6.own j es hj;exact⟨a,xs,t1,t2,tb,t3,by rw[j3 (na j es a hj t1)];exact t4,t5.mono vs⟩
         exact R7.base w6 n0 na
        .exact J3.append ((ry.mono r6.vis).mono (qY A6)) (J3.one (rv.mono (qY A6)))
       .cases e'
      .cases e'
    .have ei:i=ds.length:=by omega
     subst ei;rw[Mb]at e';unfold r8 at e';cases e';rw[Cr]at ez;subst ez;have r0:=r'.unbase n0;exact .inl ⟨wk.stop H' vis,q l af H' r0.same (i7.of aC) (ry.mono (qD λb hb=>A7 _ (r.sub b hb))) λb hb=>r0.zs b (r0.sub b hb)⟩
   .cases e
  .cases e
def WN{p aU:Hi}(hm:X.mg "tuple" = none)(h:ZL X a f)(hg:Gl X "tuple":=by rfl)(he:J0 a=true:=by rfl):ZS X (.Return (some (.Call (.Name "tuple" p) [a] [] aU)) pos) (i9 (lR f)):=
 ⟨have h:=h.h;
 mY (FA (oN OG hg hm ‹_› (J7 h Y5 (w9 he)) ∅ ∅ (w9 he) (K7 rfl))) λE U H h_=>by
  refine f7 h_ λY o B H0 V0 Z e r q=>?_;unfold i9 lR at e
  cases ef:f Y with
  |none=>rw[ef]at e;cases e
  |some ds=>
   rw[ef]at e;cases e;refine⟨Y,ds,B,H0,V0,Z,ef,r,λn xs H1 s1 hq rr hB=>⟨n,xs,rfl,.inl ⟨hq,λl hl=>?_⟩⟩⟩;have sn:=u9 (o:=HO.tup xs) hl;refine q _ _ (s1.trans sn) (j5.mpr ⟨l,xs,rfl,i8.of ?_,rr.mono (x9 sn)⟩);rw[K8 (λz=>by obtain⟨u,hu⟩:=hB l z;rw[hl]at hu;cases hu)]
   exact w6⟩
end
section
variable{X:Cx}{pos p p2 aU:Hi}{a b c e tg:Expr}{fa fb fc f:ED}
def TM(h1:PI X tg e w1)(h2:PI X tg e w2):PI X tg e (λU H R=>w1 U H R\/w2 U H R):=λaa s U H R I h=>by
 rcases h with h|h
 .exact h1 aa s U H R I h
 .exact h2 aa s U H R I h
def W3(h:ZE X e f):ZI X tg e (b9 f):=
 ⟨have h:=h.h;
 tP (TM (ť h) (Ŧ h)) λU H R h_=>by
 refine f7 h_ λY ds B H0 V0 Z e r q=>?_;unfold b9 at e;split at e
 .rename_i es he;cases e;exact .inl ⟨Y,_,B,H0,V0,Z,by unfold KM;rw[he],r,q⟩
 .rename_i es he;cases e;exact .inr ⟨Y,_,B,H0,V0,Z,by unfold KN;rw[he],r,q⟩
 .cases e⟩
def xL(hu:X.A.units<D8)(ha:ZE X a fa)(hb:ZE X b fb):ZT X (.Compare a [.Lt] [b] pos) (u0 (d2 oU fa fb)):=
 ⟨have ha:=ha.h;
 have hb:=hb.h;
 xJ (TD.or (Ľ hu)) (lP.or vM Ŝ) ha hb (tH _)⟩
def Za{i:Nat}{x:Ba}{p1 p2 p3:Hi}(h:ZE X a fa)(hN:X.N[i]?=some x:=by rfl)(hv:mS X.env.scope x:=by first|exact E7 rfl|exact D3 (E7 rfl)|exact D3 (D3 rfl))(hd:(x==("__debug__":Ba))=false:=by decide)(aO:(x==("__classdict__":Ba))=false:=by decide)(aD:Fb (.Name x p1) "pop" X.env (Ec (.Name x p1) X.env)=Ec (.Name x p1) X.env:=by rfl) (bd:((F0 p3 (Bt [a] X.env)).all (λx=>!x.1)&&(M9 p3 (Iu [] X.env)).all (λx=>x.1.isSome)
   && decide (([a]:List Expr).length+([]:List Hu).length+(if ([]:List Hu).isEmpty then 0 else 1)<30))=true:=by rfl) (aE:(p2.endLine==p3.line)=true:=by rfl) (hs:J0 a=true:=by rfl): ZX X (.Call (.Attribute (.Name x p1) "pop" p2) [a] [] p3) (yF i fa):=
 ⟨have h:=h.h;
 Ū (xX Gf PySem.F.slot_list_pop PySem.F.type_list_pop ϣ (nW hN hv hd aO) (J7 h Y5 (w9 hs)) aD bd aE (w9 hs) (K7 rfl))⟩
end
def ϙ:K0 [] H=H:=by funext b;unfold K0;rw[y8 (by simp)]
def jJ(n:Nat)(N:List Ba)(g:EO):LD:=λds=>if ds.length=n then lM (g (oJ N ds)) else none
def v13{P:Bs}{w:Ce}{K:A5}{mg:Ba->Option A9}{base:Ch}{x:Ba}{st:Dl}{N ps:List Ba}{k n:Nat}{g:EO}(G:b8 K mg x st)(S:jD N ps (u5 st))(hb:∀(kV az pm:A9) (an:Option As) (ah ct:A9) (us:List A9),us.length=ps.length->Gu (E3 x x (pQ st) (l9 st) (u5 st) .none kV az pm an ah ct) ⟨us,[]⟩=Ci (ps.zip us))(hn:ps.length=n) (ap:∀(f:As) (ah:A9) (A:Bz) (outer:List O7) (s:Ae) (H:Hp) (E:XK),d8 k (A.deeper (Jr x (u5 st) s.heap.objs.size f ah)) ->
   ZB (oQ mG P w K mg base N x (u5 st) f ah A outer s H E).nox (l9 st) g):jO P w K mg base (k+1) x ps (jJ n N g):=
 have ap:=λf ah A outer s H E hr=>(ap f ah A outer s H E hr).h;
 Yc G S (λds d e=>by
  unfold jJ at e;split at e
  .rename_i h;rw[h,hn]
  .cases e) (λds d e=>by
  unfold jJ at e;split at e
  .exact e
  .cases e) hb ap
section
variable{prog:Bs}{w:Ce}{A:Bz}{E:VP}{s:Ae}
def WM{x:A9}{Q:VP}(aG:s.heap.IsTupleIter it t i)(ht:s.heap.IsTuple t items)(hx:items[i]?=some x)(hQ:∀h',h'.IsTupleIter it t (i+1)->Dd it s.heap h'->Q x { s with heap:=h' }):Ah (Aw prog w) A (Ft (.ref it)) Q E s:=by
 rcases id aG with⟨ob,eo,ec,ed⟩;rcases ht with⟨ot,et,_,nt,edt⟩;unfold Ft;refine A0 (Cy (name:=Bl "__next__") aG.typeIs F.slot_tuple_iterator_next (Ct F.slot_tuple_iterator_next aG.typeIs F.entry_tuple_iterator_next ?_ (F.args_tuple_iterator_next_1 _)));show Ah _ _ (field (.ref it) 0 >>= _) _ _ s;refine A0 (Dt eo ed (x:=.ref t) rfl ?_)
 show Ah _ _ (if (Co t==Bx)=true then _ else _) _ _ s;rw[y8 (show ¬((Co t==Bx)=true) from Ay)];show Ah _ _ (field (.ref it) 1 >>= _) _ _ s;refine A0 (Dt eo ed (x:=.int i 0) rfl ?_);show Ah _ _ (Ju (.ref t) >>= _) _ _ s;refine A0 (En et edt ?_);simp only[Av,hx];refine A0 (Fk eo ed (by simp) (x6 ⟨x,rfl,x6 (hQ _ ?_ (Bp ..))⟩))
 exact⟨_,C9 _ eo (Ka.isFreed_of_fields (Ka.data_mapFields ed _)),(Ka.cls_mapFields ..).trans ec,by rw[Ka.data_mapFields ed];simp[rawInt]⟩
def V8(hh:A.handled=none)(aG:s.heap.IsTupleIter it t i)(ht:s.heap.IsTuple t items)(hx:items[i]?=none)(hE:∀h' e,Oc it s.heap h'->(∃o,h'.get? e=some o/\o.cls = .type "StopIteration")->E (.ref e) { s with heap:=h' }):Ah (Aw prog w) A (Ft (.ref it)) Q E s:=by
 rcases id aG with⟨ob,eo,ec,ed⟩;rcases ht with⟨ot,et,_,nt,edt⟩;unfold Ft;refine A0 (Cy (name:=Bl "__next__") aG.typeIs F.slot_tuple_iterator_next (Ct F.slot_tuple_iterator_next aG.typeIs F.entry_tuple_iterator_next ?_ (F.args_tuple_iterator_next_1 _)));show Ah _ _ (field (.ref it) 0 >>= _) _ _ s;refine A0 (Dt eo ed (x:=.ref t) rfl ?_)
 show Ah _ _ (if (Co t==Bx)=true then _ else _) _ _ s;rw[y8 (show ¬((Co t==Bx)=true) from Ay)];show Ah _ _ (field (.ref it) 1 >>= _) _ _ s;refine A0 (Dt eo ed (x:=.int i 0) rfl ?_);show Ah _ _ (Ju (.ref t) >>= _) _ _ s;refine A0 (En et edt ?_);simp only[Av,hx];refine A0 (Fl (A0 (Fk eo ed (by simp) ?_)))
 show Ah _ _ (newExc (.type "StopIteration") [] >>= _) _ _ _;refine A0 ?_;simp only[newExc,O0];refine A0 (Bc ?_ (by size_fits));refine A0 (m:=Hm _ _) (Cn (a:=Bx) (by first|rfl|(simp only[Hm];rfl)) (Bc ?_ (by size_fits)))
 simp only[raiseNew];refine A0 (Nk ?_)
 first|rw[show A.in1.handled=none from hh]|rw[hh]
 refine A0 (x6 (Od ?_));exact hE _ _ (((Bp ..).extBut.push _).push _) ⟨_,Ak _ rfl,rfl⟩
def ĳ(hh:A.handled=none)(it t:As)(am:t≠it)(items:Array A9):
  Draws prog w A it [it,t] items.size (λi v=>items[i]?=some v) (λi h=>h.IsTupleIter it t i/\h.IsTuple t items) where
 live:=λ_ _ st=>by obtain⟨⟨o,ho,_⟩,_⟩:=st;exact⟨o,ho⟩
 frame:=λ_ _ _ st hk=>by obtain⟨⟨o,ho,z⟩,⟨o2,ce,z2⟩⟩:=st;exact⟨⟨o,hk it (by simp) o ho,z⟩,⟨o2,hk t (by simp) o2 ce,z2⟩⟩
 item:=λi s Q E hi st hQ=>WM st.1 st.2 (x:=items[i]) (by simp[hi]) λh' a b=>hQ _ h' s.toks (by simp[hi]) ⟨a,st.2.extBut b.extBut am⟩ b
 done:=λs Q E st hE=>V8 hh st.1 st.2 (by simp) hE
def Ĵ(l:As)(items:Array A9)(n:Nat)(dct:Option As)(sl:Array (Option A9)):
  Oo (C1.«enumerate.__new__» ⟨[.type "enumerate",.ref l],[]⟩) (λ_ R s=>s.heap.get? l=some { cls:=.type "tuple",dict:=dct,data:=.seq items n,slots:=sl } /\
   R (.ok (.ret (.ref (s.heap.push { cls:=.type "tuple_iterator",data:=.fields #[.ref l,.int 0 0] }).objs.size)))
    { s with heap:=(s.heap.push { cls:=.type "tuple_iterator",data:=.fields #[.ref l,.int 0 0] }).push { cls:=.type "enumerate",data:=.fields #[.none,.bool false,.ref s.heap.objs.size,rawInt 0,.none,.none] } }):=
 .of_wp λprog w A R s h=>by
  obtain⟨hp,g,d,tk,os⟩:=s;obtain⟨hl,h⟩:=h;have bU:=sub_enumerate;have hL:Ch.IsTuple (Ae.heap ⟨hp,g,d,tk,os⟩) l items:=⟨_,hl,rfl,n,rfl⟩
  wp_walk using G8 hl;refine wpAny_stack_any λst=>x6 ?_
  split
  .rename_i c _ _ _ _ _;cases (c==C4 "enumerate")<;>(wp_walk using G8 hl,Ev hL;exact⟨_,rfl,h⟩)
  .wp_walk using G8 hl,Ev hL;exact⟨_,rfl,h⟩
def WX{Q:VP}(hL:s.heap.IsTuple l items)(h:∀h',IsEnum h' (s.heap.objs.size+1) s.heap.objs.size 0 .none->h'.IsTupleIter s.heap.objs.size l 0->(∀b o,s.heap.get? b=some o->h'.get? b=some o)->Q (.ref (s.heap.objs.size+1)) { s with heap:=h' }):
  Ah (Aw prog w) A (call (.type "enumerate") [.ref l]) Q E s:=by
 rcases hL with⟨⟨c,dct,dt,sl⟩,hl,hc,n,hd⟩;have bN:c = .type "tuple":=hc;have bS:dt = .seq items n:=hd;subst bN bS;refine callType_new F.called_enumerate ∅ (F.typeCall_enumerate_1 _) (F.newCall_enumerate_1 _) (λobj=>F.args_object_init_2 obj _) F.entry_enumerate_new (Ĵ l items n dct sl) ⟨hl,?_⟩;have hz:(s.heap.push { cls:=.type "tuple_iterator",data:=.fields #[.ref l,.int 0 0] }).objs.size=s.heap.objs.size+1:=Dx ..
 have he:IsEnum ((s.heap.push { cls:=.type "tuple_iterator",data:=.fields #[.ref l,.int 0 0] }).push { cls:=.type "enumerate",data:=.fields #[.none,.bool false,.ref s.heap.objs.size,rawInt 0,.none,.none] }) (s.heap.objs.size+1) s.heap.objs.size 0 .none:=by
  have z:=Ak (s.heap.push { cls:=.type "tuple_iterator",data:=.fields #[.ref l,.int 0 0] }) (o:={ cls:=.type "enumerate",data:=.fields #[.none,.bool false,.ref s.heap.objs.size,rawInt 0,.none,.none] }) rfl
  rwa [hz]at z
 show _/\_;rw[hz];exact⟨⟨_,he,rfl⟩,h _ he ⟨_,A8 _ (Ak _ rfl),rfl,rfl⟩ λb o x=>A8 _ (A8 _ x)⟩
end
def ZZ{h':Ch}{t':Nat}{ch:List As}{a:As}(I:a9 X aa U H s)(k:∀b ob,b∉ch->s.heap.get? b=some ob->h'.get? b=some ob)(hf:∀b∈ch,qM X aa H b)(ha:s.heap.objs.size<=a)(new:kX X.prog X.w (upd H a o) h' a o):a9 X aa U (upd H a o) { s with heap:=h',toks:=t' }:=by
 have hn:H a=none:=I.hok.fresh ha;have lt:∀b ob,s.heap.get? b=some ob->b≠a:=λb ob e=>An (B3 (Aj e) ha)
 have fu:∀b u,H b=some u->b∉ch:=λb u e z=>by
  have:=(hf b z).1
  rw[e]at this;cases this
 refine I.call (g':=s.gens) (d':=s.drawn) (ch:=ch) ⟨λb ob e n _ hx=>k b ob hx e,λb ob e n _ hx=>⟨ob.slots,k b ob hx e⟩,λb ob e n _=>by rw[j3 (lt b ob e)];exact n,λb ob e hx=>⟨ob,k b ob hx e⟩,
  λb xs e=>by rw[j3 (Z0 e hn)];exact e,λb ob u e=>by rw[j3 (Z0 e hn)];exact e,λb ps e=>⟨#[],by rw[j3 (Z0 e hn),e];simp⟩⟩ (λb u e=>?_) I.bare λb hb=>?_
 .by_cases hb:b=a
  .subst hb;rw[w6]at e;cases e;exact new
  .rw[j3 hb]at e
   refine(I.hok b u e).stay (λc v hc q=>k c v ?_ q) (λc q=>by rw[j3 (Z0 q hn)];exact q) (λc xs q=>by rw[j3 (Z0 q hn)];exact q) λc ob xs q=>by rw[j3 (Z0 q hn)];exact q
   rcases hc with z|z
   .rw[z];exact fu b u e
   .exact fu c _ z
 .obtain⟨_,f1,_,f3,f5,f6⟩:=hf b hb;exact⟨f3,f1,f5,f6⟩
def GH(Sq:Hp->List V->Prop):It:=
 ⟨λi H=>∃xs x,Sq H xs/\xs[i]?=some x,λi H x H'=>∃p y,H p=none/\x = .ref p/\H'=upd H p (.tup [.int (i:Nat),y])/\∀xs,Sq H xs->xs[i]?=some y,λi H=>∃xs,Sq H xs/\xs.length=i⟩
structure wB(P:Bs)(w:Ce)(K:A5)(a it:As)(Sq:Hp->List V->Prop)(Sr:Ch->Array A9->Prop)(fM:Nat->Ch->Prop):Prop where
 src:∀(X:Cx) aa U H s,X.K=K->a9 X aa U H s->∀xs,Sq H xs->∃its:List A9,Y4 xs its/\Sr s.heap its.toArray
 inj:∀(X:Cx) aa U H s,X.K=K->a9 X aa U H s->∀xs ys,Sq H xs->Sq H ys->xs=ys
 draw:∀(A:Bz) (items:Array A9),A.handled=none->Draws P w A it [it,a] items.size (λi v=>items[i]?=some v) (λi h=>fM i h/\Sr h items)
 obj:∀i h,fM i h->∃o,h.get? it=some o/\∀v,o.data≠.cell v
 keep:∀i h h',fM i h->(∀o,h.get? it=some o->h'.get? it=some o)->fM i h'
 cls:∀h items,Sr h items->∃o,h.get? a=some o/\o.cls≠.type "enumerate"
def PV{P:Bs}{w:Ce}{K:A5}{dL:List Expr}{x1:Nat}{cT:Hi}{a it e:As}{Sq:Hp->List V->Prop}{Sr:Ch->Array A9->Prop}{fM:Nat->Ch->Prop}(D:wB P w K a it Sq Sr fM)(hei:e≠it):
  qQ P w K (.Tuple dL x1 cT) (GH Sq) [e,it] e (λi h=>(∃old,IsEnum h e it ((i:Nat):Int) old)/\fM i h) where
 mem:=by simp
 obj:=λi h st b hb=>by
  obtain⟨⟨old,he⟩,hi⟩:=st;rcases Ac.mp hb with z|z
  .subst z;exact⟨_,he,λv q=>by cases q⟩
  .rw[Ag.mp z];exact D.obj i h hi
 keep:=λi h h' st k=>by obtain⟨⟨old,he⟩,hi⟩:=st;exact⟨⟨old,k e (by simp) _ he⟩,D.keep i h h' hi λo q=>k it (by simp) o q⟩
 item:=by
  intro X hP hw hK hc i aa s U H E I hf st hg;subst hP hw;obtain⟨xs,x,hq,hx⟩:=hg;obtain⟨⟨old,he⟩,hi⟩:=st;obtain⟨its,rv,sr⟩:=D.src X aa U H s hK I xs hq;obtain⟨u,hu,ru⟩:=rv.get hx
  have ak:i<its.toArray.size:=by rw[Af];exact(B0.mp hu).1
  have hea:e≠a:=λz=>by obtain⟨o,h1,h2⟩:=D.cls _ _ sr;rw[<-z,he]at h1;cases h1;exact h2 rfl
  have hef:e∉[it,a]:=by simp[hei,hea]
  have heL:e<s.heap.objs.size:=Aj he;obtain⟨oi,iD,_⟩:=D.obj i _ hi;have hiL:it<s.heap.objs.size:=Aj iD;refine wpAny_pyNext_enum_itemD (D.draw X.A.in1 its.toArray (I.ok.hd hc)) he ⟨hi,sr⟩ ak hei hef λv h1 tk hv ho hs hT hz hk=>?_
  have ev:v=u:=by
   have:its.toArray[i]?=some v:=hv
   rw[show its.toArray[i]?=its[i]? by simp,hu]at this;exact(Bi this).symm
  subst ev;refine⟨_,rfl,wpAny_letOwnedTupleGo_enum ho λh2 cP bE=>?_⟩
  have kk:∀b ob,b∉[e,it]->s.heap.get? b=some ob->h2.get? b=some ob:=λb ob hb q=>by have n1:b≠e:=λz=>hb (by simp[z]);have n2:b≠it:=λz=>hb (by simp[z]);exact(bE.2 b n1).trans (hk b ob n1 n2 q)
  have hT2:h2.get? s.heap.objs.size=some { cls:=.type "tuple",data:=.seq #[.int i tk,v] }:=(bE.2 _ (Cw heL)).trans hT;refine⟨.ref s.heap.objs.size,upd H s.heap.objs.size (.tup [.int (i:Nat),x]),ZZ (s:=s) (t':=tk+1) I kk hf (Ad _) ⟨by rw[Bk];simp,[.int i tk,v],.cons ⟨tk,rfl⟩ (.cons ru .nil),⟨_,hT2,rfl,⟨_,rfl⟩,rfl⟩⟩,rfl,⟨_,x,I.fresh,rfl,rfl,λys hy=>by rw[D.inj X aa U H s hK I ys xs hy hq];exact hx⟩,⟨⟨v,?_⟩,?_⟩,λb hb=>?_⟩
  .have:(((i+1:Nat):Nat):Int)=(i:Int)+1:=by omega
   rw[this];exact cP
  .exact D.keep _ _ _ hs.1 λo q=>(bE.2 it (Cz hei)).trans q
  .have aW:b<s.heap.objs.size:=by
    rcases Ac.mp hb with z|z
    .rw[z];exact heL
    .rw[Ag.mp z];exact hiL
   rw[j3 (An aW)];exact(hf b hb).1
 done:=by
  intro X hP hw hK hc i aa s U H E I hf st hg;subst hP hw;obtain⟨xs,hq,hx⟩:=hg;obtain⟨⟨old,he⟩,hi⟩:=st;obtain⟨its,rv,sr⟩:=D.src X aa U H s hK I xs hq
  have hn:i=its.toArray.size:=by rw[Af,<-rv.length,hx]
  obtain⟨f0,f1,f2,f3,f4,f5⟩:=hf it (by simp);refine wpAny_pyNext_enum_endD (D.draw X.A.in1 its.toArray (I.ok.hd hc)) he ⟨hn▸hi,sr⟩ λh' eb=>⟨rfl,I.turned (t':=s.toks) (λb o hb q=>eb b o hb q) f0 f1 f3 f4 f5⟩
 self:=λ_ _ _ _ _ st h=>by obtain⟨⟨old,he⟩,_⟩:=st;exact Li he h
def X9{P:Bs}{w:Ce}{K:A5}{a it:As}(am:a≠it):wB P w K a it (λH xs=>i7 K H a xs) (λh items=>h.IsList a items) (λi h=>h.IsListIter it a i) where
 src:=λX aa U H s hK I xs hq=>by subst hK;obtain⟨its,rv,p,_⟩:=I.list hq;exact⟨its,rv,p.isList⟩
 inj:=λX aa U H s hK I xs ys h1 h2=>by subst hK;exact I.list_inj h1 h2
 draw:=λA items hh=>Draws.list hh it a am items
 obj:=λi h st=>by obtain⟨o,e,c,d⟩:=st;exact⟨o,e,λv z=>by rw[d]at z;cases z⟩
 keep:=λi h h' st k=>by obtain⟨o,e,z⟩:=st;exact⟨o,k o e,z⟩
 cls:=λh items st=>by obtain⟨o,e,c,_⟩:=st;exact⟨o,e,by rw[c];decide⟩
def ϓ{P:Bs}{w:Ce}{K:A5}{a it:As}(am:a≠it):wB P w K a it (λH xs=>i8 K H a xs) (λh items=>h.IsTuple a items) (λi h=>h.IsTupleIter it a i) where
 src:=λX aa U H s hK I xs hq=>by subst hK;obtain⟨its,rv,p,_⟩:=I.tuple hq;exact⟨its,rv,p⟩
 inj:=λX aa U H s hK I xs ys h1 h2=>by subst hK;exact I.tuple_inj h1 h2
 draw:=λA items hh=>ĳ hh it a am items
 obj:=λi h st=>by obtain⟨o,e,c,d⟩:=st;exact⟨o,e,λv z=>by rw[d]at z;cases z⟩
 keep:=λi h h' st k=>by obtain⟨o,e,z⟩:=st;exact⟨o,k o e,z⟩
 cls:=λh items st=>by obtain⟨o,e,c,_⟩:=st;exact⟨o,e,by rw[c];decide⟩
section
variable{X:Cx}{dL:List Expr}{x1:Nat}{cT pos p:Hi}{a:Expr}{f:ED}
def v3S(K:A5)(ta:TA):TI:=λU H R=>ta U H λvs H1=>∃a,vs=[.ref a]/\(∃xs,i7 K H1 a xs)/\R (GH λH xs=>i7 K H a xs) H1
def v3R(K:A5)(ta:TA):TI:=λU H R=>ta U H λvs H1=>∃a,vs=[.ref a]/\(∃xs,i8 K H1 a xs)/\R (GH λH xs=>i8 K H a xs) H1
def Ō{ta:TA}(hg:Gl X "enumerate")(hm:X.mg "enumerate" = none)(ha:PA X [a] ta)(hv:Db "enumerate" = some (.type "enumerate"))(he:Bt [a] X.env=(false,Ec a X.env)::Bt [] X.env)(au:(F0 pos (Bt [] X.env)).any (·.1)=false):PI X (.Tuple dL x1 cT) (.Call (.Name "enumerate" p) [a] [] pos) (v3S X.K ta):=by
 intro aa s U H R I h;refine Call_ (pN I hg hm hv (Ek (kY (ha pos aa s U H _ I h) λus s1 ⟨vs,H1,I1,r1,l,ev,⟨xs,hq⟩,q1⟩=>?_) he au));subst ev;obtain⟨u,rfl,ru⟩:=l7 r1;cases ru;obtain⟨its,rv,pl,_⟩:=I1.list hq;refine call_enumerate_list pl.isList λh' e1 e2 hz kk=>Li e1 ?_;have I2:a9 X aa U H1 { s1 with heap:=h' }:=I1.kept (t':=s1.toks) kk
 have hll:l<s1.heap.objs.size:=by obtain⟨o,e,_⟩:=pl.isList;exact Aj e
 refine⟨s1.heap.objs.size+1,[s1.heap.objs.size+1,s1.heap.objs.size],_,_,H1,rfl,I2,PV (X9 (An hll)) (Nat.succ_ne_self _),⟨⟨_,e1⟩,e2⟩,λb hb=>?_,q1⟩
 have aW:s1.heap.objs.size<=b:=by
  rcases Ac.mp hb with z|z
  .rw[z];exact E9 _
  .rw[Ag.mp z];exact Ad _
 exact I1.fpOk aW (I1.hok.fresh aW)
def ō{ta:TA}(hg:Gl X "enumerate")(hm:X.mg "enumerate" = none)(ha:PA X [a] ta)(hv:Db "enumerate" = some (.type "enumerate"))(he:Bt [a] X.env=(false,Ec a X.env)::Bt [] X.env)(au:(F0 pos (Bt [] X.env)).any (·.1)=false):PI X (.Tuple dL x1 cT) (.Call (.Name "enumerate" p) [a] [] pos) (v3R X.K ta):=by
 intro aa s U H R I h;refine Call_ (pN I hg hm hv (Ek (kY (ha pos aa s U H _ I h) λus s1 ⟨vs,H1,I1,r1,l,ev,⟨xs,hq⟩,q1⟩=>?_) he au));subst ev;obtain⟨u,rfl,ru⟩:=l7 r1;cases ru;obtain⟨its,rv,pl,_⟩:=I1.tuple hq;refine WX (show s1.heap.IsTuple l its.toArray from pl) λh' e1 e2 kk=>Li e1 ?_;have I2:a9 X aa U H1 { s1 with heap:=h' }:=I1.kept (t':=s1.toks) kk
 have hll:l<s1.heap.objs.size:=by obtain⟨o,e,_⟩:=id pl;exact Aj e
 refine⟨s1.heap.objs.size+1,[s1.heap.objs.size+1,s1.heap.objs.size],_,_,H1,rfl,I2,PV (ϓ (An hll)) (Nat.succ_ne_self _),⟨⟨_,e1⟩,e2⟩,λb hb=>?_,q1⟩
 have aW:s1.heap.objs.size<=b:=by
  rcases Ac.mp hb with z|z
  .rw[z];exact E9 _
  .rw[Ag.mp z];exact Ad _
 exact I1.fpOk aW (I1.hok.fresh aW)
def nA:Nat->List D->List D
 |_,[]=>[]
 |k,d::ds=>.tup [.int (k:Int),d]::nA (k+1) ds
theorem Pl:∀(ds:List D) (k i:Nat),(nA k ds)[i]?=(ds[i]?).map λd=>.tup [.int ((k+i:Nat):Int),d]
 | [],k,i=>by simp[nA]
 |d::ds,k,0=>by simp[nA]
 |d::ds,k,i+1=>by rw[nA,Eh,Pl ds (k+1) i,Eh,show k+1+i=k+(i+1) by omega]
theorem JW:∀(ds:List D) (k:Nat),(nA k ds).length=ds.length
 | [],_=>rfl
 |d::ds,k=>by rw[nA,Au,Au,JW ds]
def PY{K:A5}{W0:Hp}{Sq:Hp->List V->Prop}{xs:List V}{ds:List D}(h1:∀H',J4 W0 H'->Sq H' xs)(h2:J3 K W0 ds xs):qP K W0 (GH Sq) (nA 0 ds) where
 go:=λH' s i hi=>by rw[JW]at hi;obtain⟨v,hv,_⟩:=h2.get (A4 hi);exact⟨xs,v,h1 H' s,hv⟩
 yld:=λH' s i x H3 hy=>by
  obtain⟨p,y,hp,rfl,rfl,hx⟩:=hy;refine⟨u9 hp,λd hd Z hz hs=>?_⟩;rw[Pl]at hd
  cases e:ds[i]? with
  |none=>rw[e]at hd;cases hd
  |some d0=>
   rw[e]at hd;cases hd;obtain⟨v,hv,rv⟩:=h2.get e
   have:=hx xs (h1 H' s)
   rw[hv]at this
   obtain rfl:=Bi this
   have sn:=u9 (o:=HO.tup [.int (i:Nat),v]) hp;refine j5.mpr ⟨p,[.int (i:Nat),v],rfl,i8.of ?_,J3.cons (v7.mpr (by simp)) (J3.one ((rv.mono hs).mono (x9 sn)))⟩;rw[K8 (SW hz hp)];exact w6
 stop:=λH' s=>⟨xs,h1 H' s,by rw[JW,h2.length]⟩
def xO(f:ED):EL:=λY=>match f Y with|some (.lst ds)=>some (nA 0 ds)|some (.tup ds)=>some (nA 0 ds)|_=>none
def CM(hm:X.mg "enumerate" = none)(h:ZE X a f)(hg:Gl X "enumerate":=by rfl)(hv:Db "enumerate" = some (.type "enumerate"):=by decide +kernel)(he:J0 a=true:=by rfl): ZI X (.Tuple dL x1 cT) (.Call (.Name "enumerate" p) [a] [] pos) (xO f):=
 ⟨have h:=h.h;
 tP (TM (Ō hg hm (J7 h Y5 (w9 he)) hv (w9 he) (K7 rfl)) (ō hg hm (J7 h Y5 (w9 he)) hv (w9 he) (K7 rfl))) λU H R h_=>by
  refine f7 h_ λY ds B H0 V0 Z e r q=>?_;unfold xO at e;split at e
  .rename_i es he;cases e;refine .inl ⟨Y,_,B,H0,V0,Z,he,r,λv H' s rr=>?_⟩;obtain⟨l,xs,rfl,h1,h2⟩:=K6.mp rr;exact⟨l,rfl,⟨xs,v4.seq h1⟩,q _ H' s (PY (λiC bu=>bu.seq h1) h2)⟩
  .rename_i es he;cases e;refine .inr ⟨Y,_,B,H0,V0,Z,he,r,λv H' s rr=>?_⟩;obtain⟨l,xs,rfl,h1,h2⟩:=j5.mp rr;exact⟨l,rfl,⟨xs,j9 v4 h1⟩,q _ H' s (PY (λiC bu=>j9 bu h1) h2)⟩
  .cases e⟩
end
end L3
namespace L2
open PySem PySem.Spec PyProof.Rows
section
variable{κ:Type}[DecidableEq κ]
def l6(kvs:List (κ×V))(k:κ):Option V:=(kvs.find? λkv=>decide (kv.1=k)).map (·.2)
def lX(kvs:List (κ×V))(k:κ)(v:V):List (κ×V):=if (kvs.any λkv=>decide (kv.1=k))=true then kvs.map (λkv=>if kv.1=k then (kv.1,v) else kv) else kvs++[(k,v)]
def zA{p:κ×V}{r:List (κ×V)}{k:κ}(e:p.1=k):l6 (p::r) k=some p.2:=by simp[l6,Gw,e]
def yZ{p:κ×V}{r:List (κ×V)}{k:κ}(e:¬p.1=k):l6 (p::r) k=l6 r k:=by simp[l6,Gw,e]
theorem To(k:κ):∀kvs:List (κ×V),(kvs.any λkv=>decide (kv.1=k))=(l6 kvs k).isSome
 | []=>rfl
 |p::r=>by
  rw[Fc];by_cases e:p.1=k
  .simp only[zA e,decide_eq_true e,O1,Option.isSome_some]
  .rw[yZ e,W4 e,M0];exact To k r
def DN(kvs:List (κ×V))(k:κ)(v:V):(lX kvs k v).length<=kvs.length+1:=by
 unfold lX;split
 .rw[A3];omega
 .rw[Ap,Au,Ed];omega
theorem pU.isSome_eq(r:pU o u):o.isSome=u.isSome:=by
 cases o with
 |none=>cases u with
  |none=>rfl
  |some _=>exact(show False from r).elim
 |some _=>cases u with
  |none=>exact(show False from r).elim
  |some _=>rfl
theorem pU.getD(r:pU o u)(rd:f9 d d'):f9 (o.getD d) (u.getD d'):=by
 cases o with
 |none=>cases u with
  |none=>exact rd
  |some _=>exact(show False from r).elim
 |some _=>cases u with
  |none=>exact(show False from r).elim
  |some _=>exact r
theorem KV.val(r:KV kvs vs)(k:κ):pU (l6 kvs k) (Nb vs k):=by
 unfold KV at r
 induction r with
 |nil=>exact L6
 | @cons p q ps qs h t ih=>
  obtain⟨h1,h2⟩:=h;by_cases e:p.1=k
  .have e':q.1=k:=h1.symm.trans e
   have b:Nb (q::qs) k=some q.2:=by simp[Nb,Gw,e']
   rw[zA e,b];exact h2
  .have e':¬q.1=k:=λz=>e (h1.trans z)
   have b:Nb (q::qs) k=Nb qs k:=by simp[Nb,Gw,e']
   rw[yZ e,b];exact ih
theorem KV.any(r:KV kvs vs)(k:κ):(kvs.any λkv=>decide (kv.1=k))=vs.any λkv=>decide (kv.1=k):=by
 unfold KV at r
 induction r with
 |nil=>rfl
 |cons h t ih=>rw[Fc,Fc,ih,h.1]
theorem KV.repl(r:KV kvs vs)(k:κ)(ry:f9 y u):
  KV (kvs.map λkv=>if kv.1=k then (kv.1,y) else kv) (vs.map λkv=>if kv.1=k then (kv.1,u) else kv):=by
 unfold KV at r ⊢
 induction r with
 |nil=>exact .nil
 | @cons p q ps qs h t ih=>
  rw[Ai,Ai];refine .cons ?_ ih;obtain⟨h1,h2⟩:=h;by_cases e:p.1=k
  .rw[y6 e,y6 (h1.symm.trans e)];exact⟨h1,ry⟩
  .rw[y8 e,y8 (λz=>e (h1.trans z))];exact⟨h1,h2⟩
def KV.put(r:KV kvs vs)(k:κ)(ry:f9 y u):KV (lX kvs k y) (stored vs k u):=by
 unfold lX stored;rw[r.any k];by_cases e:(vs.any λkv=>decide (kv.1=k))=true
 .rw[y6 e,y6 e];exact r.repl k ry
 .rw[y8 e,y8 e];exact Ky.snoc r ⟨rfl,ry⟩
def KV.length{kvs:List (κ×V)}{vs:List (κ×A9)}(r:KV kvs vs):kvs.length=vs.length:=Lv r
end
theorem xU(r:f9 (kV k) u):(mX P w).is k u=true:=by
 cases k with
 |inl i=>obtain⟨t,e⟩:=(show ∃t,u=Ip i t from r);subst e;exact VS P w i t
 |inr x=>obtain⟨t,e⟩:=(show ∃t,u=N2 x t from r);subst e;exact VT P w x t
theorem Pu:∀{ks:List d4} {us:List A9},Y4 (ks.map kV) us->ItemsAre (mX P w) ks us
 | [],_,r=>by rw[Go]at r;cases r;exact .nil
 |k::ks,_,r=>by
  rw[Ai]at r
  cases r with
  |cons h t=>exact .cons (xU h) (Pu t)
abbrev KT(H:Hp):List (List d4×V)->List (List d4×As×A9)->Prop:=Ky λp q=>p.1=q.1/\H q.2.1=some (.tup (p.1.map kV))/\f9 p.2 q.2.2
theorem KT.val(r:KT H kvs xs)(k:List d4):pU (l6 kvs k) ((Oe xs k).map (·.2)):=by
 induction r with
 |nil=>exact L6
 | @cons p q ps qs h t ih=>
  obtain⟨h1,_,h2⟩:=h;by_cases e:p.1=k
  .have e':q.1=k:=h1.symm.trans e
   have b:Oe (q::qs) k=some q.2:=by simp[Oe,Gw,e']
   rw[zA e,b];exact h2
  .have e':¬q.1=k:=λz=>e (h1.trans z)
   have b:Oe (q::qs) k=Oe qs k:=by simp[Oe,Gw,e']
   rw[yZ e,b];exact ih
theorem KT.repl(r:KT H kvs xs)(k:List d4)(ry:f9 y u):
  KT H (kvs.map λkv=>if kv.1=k then (kv.1,y) else kv) (xs.map (putAt k u)):=by
 induction r with
 |nil=>exact .nil
 | @cons p q ps qs h t ih=>
  rw[Ai,Ai];refine .cons ?_ ih;obtain⟨h1,h2,h3⟩:=h;unfold putAt;by_cases e:p.1=k
  .rw[y6 e,y6 (h1.symm.trans e)];exact⟨h1,h2,ry⟩
  .rw[y8 e,y8 (λz=>e (h1.trans z))];exact⟨h1,h2,h3⟩
def KT.put(r:KT H kvs xs)(k:List d4)(hb:H b=some (.tup (k.map kV)))(ry:f9 y u):
  KT H (lX kvs k y) (storedH xs k b u):=by
 have e:(kvs.any λkv=>decide (kv.1=k))=(Oe xs k).isSome:=by rw[To,(r.val k).isSome_eq,G4]
 unfold lX storedH;rw[e];by_cases q:(Oe xs k).isSome=true
 .rw[y6 q,y6 q];exact r.repl k ry
 .rw[y8 q,y8 q];exact Ky.snoc r ⟨rfl,hb,ry⟩
def KT.keeps{H H':Hp}(r:KT H kvs xs)(ht:∀b ys,H b=some (.tup ys)->H' b=some (.tup ys)):KT H' kvs xs:=Ky.mapP r λ_ _ z=>⟨z.1,ht _ _ z.2.1,z.2.2⟩
section
variable{P:Bs}{w:Ce}{H:Hp}{h:Ch}{a:As}
def TW(ok:lF P w H h)(e:Rd H a u):kX P w H h a u:=e.ok ok
def xR(ok:lF P w H h)(e:Rd H a (.dK kvs)):kvs.length<=sizeLine/\(a==G6)=false/\∃vs,KV kvs vs/\h.DictOf (mX P w) a vs:=show kX P w H h a (.dK kvs) from TW ok e
def vS(ok:lF P w H h)(e:H a=some (.dK kvs)):kvs.length<=sizeLine/\(a==G6)=false/\∃vs,KV kvs vs/\h.DictOf (mX P w) a vs:=xR ok (.inl e)
def zU{ks:List d4}(ok:lF P w H h)(e:H a=some (.tup (ks.map kV))):(N3 (mX P w)).is h ks a:=by obtain⟨_,its,r,o,h1,h2,⟨n,h3⟩,_⟩:=(show kX P w H h a (.tup (ks.map kV)) from ok a _ e);exact⟨o,its.toArray,n,h1,h2,h3,by simpa using Pu r⟩
def AR(ok:lF P w H h)(e:Rd H a (.dT kvs)):kvs.length<=sizeLine/\(a==G6)=false /\
  ∃xs,KT H kvs xs/\h.DictOfH (N3 (mX P w)) a xs:=by
 obtain⟨z,y,xs,r,o,es,ep,h1,h2,h3,h4,h5⟩:=(show kX P w H h a (.dT kvs) from TW ok e);refine⟨z,y,xs,r,o,es,ep,h1,h2,h3,h4,λx hx=>?_,h5⟩
 have all:∀{l:List (List d4×V)} {m:List (List d4×As×A9)},KT H l m->∀x∈m,(N3 (mX P w)).is h x.1 x.2.1:=by
  intro l m q
  induction q with
  |nil=>intro x hx;exact nomatch hx
  | @cons p q ps qs hq t ih=>
   intro x hx;rcases Ac.mp hx with e|hx
   .subst e;exact zU ok (by rw[<-hq.1];exact hq.2.1)
   .exact ih x hx
 exact all r x hx
def v25(ok:lF P w H h)(e:H a=some (.dT kvs)):kvs.length<=sizeLine/\(a==G6)=false /\
  ∃xs,KT H kvs xs/\h.DictOfH (N3 (mX P w)) a xs:=AR ok (.inl e)
end
def n8(H:Hp)(a:As)(y:V)(r:Option V):Prop:=(∃kvs k,Rd H a (.dK kvs)/\y=kV k/\r=l6 kvs k)\/∃kvs k b,Rd H a (.dT kvs)/\y = .ref b/\H b=some (.tup (k.map kV))/\r=l6 kvs k
def vT(H:Hp)(a:As)(y v:V)(H':Hp):Prop:=
 (∃kvs k,H a=some (.dK kvs)/\y=kV k/\kvs.length<sizeLine/\H'=upd H a (.dK (lX kvs k v))) \/
 ∃kvs k b,H a=some (.dT kvs)/\y = .ref b/\H b=some (.tup (k.map kV))/\kvs.length<sizeLine/\H'=upd H a (.dT (lX kvs k v))
def n8.k{H:Hp}{a:As}{kvs:List (d4×V)}{k:d4}(e:H a=some (.dK kvs)):n8 H a (kV k) (l6 kvs k):=.inl ⟨kvs,k,.inl e,rfl,rfl⟩
def n8.t{H:Hp}{a b:As}{kvs:List (List d4×V)}{k:List d4}(e:H a=some (.dT kvs))(eb:H b=some (.tup (k.map kV))):n8 H a (.ref b) (l6 kvs k):=.inr ⟨kvs,k,b,.inl e,rfl,eb,rfl⟩
def vT.k{H:Hp}{a:As}{kvs:List (d4×V)}{k:d4}{v:V}(e:H a=some (.dK kvs))(hl:kvs.length<sizeLine):vT H a (kV k) v (upd H a (.dK (lX kvs k v))):=.inl ⟨kvs,k,e,rfl,hl,rfl⟩
def vT.t{H:Hp}{a b:As}{kvs:List (List d4×V)}{k:List d4}{v:V}(e:H a=some (.dT kvs))(eb:H b=some (.tup (k.map kV)))(hl:kvs.length<sizeLine):
  vT H a (.ref b) v (upd H a (.dT (lX kvs k v))):=.inr ⟨kvs,k,b,e,rfl,eb,hl,rfl⟩
section
variable{X:Cx}{aa:i6}{U:St}{H:Hp}{s:Ae}{a:As}{y v:V}{u r:A9}{o:Option V}{A:Bz}{E:VP}
def a9.big(I:a9 X aa U H s):G6<s.heap.objs.size:=by have h:D9<s.heap.objs.size:=(I.mod.glob.keeps I.bk).lt;exact Dv ∅ h
def X5{Q:VP}(hu:A.units+1<D8)(I:a9 X aa U H s)(g:n8 H a y (some v))(ry:f9 y u)(h:∀w' s',a9 X aa U H s'->f9 v w'->Q w' s'):
  Ah (Aw X.prog X.w) A (Ja (.ref a) u) Q E s:=by
 rcases g with⟨kvs,k,e,ey,l⟩|⟨kvs,k,b,e,ey,eb,l⟩
 .subst ey;obtain⟨z,hd,vs,aN,dd⟩:=xR I.hok e;obtain⟨w',hw,rw'⟩:=pU.some_of (v:=v) (o:=Nb vs k) (by rw[l];exact aN.val k)
  exact wpAny_getItem_of (xU ry) dd.mapOf hw (h w' _ (I.tok _) rw')
 .subst ey;cases (show u=Co b from ry);obtain⟨z,hd,xs,aN,dd⟩:=AR I.hok e;obtain⟨w',hw,rw'⟩:=pU.some_of (v:=v) (o:=(Oe xs k).map (·.2)) (by rw[l];exact aN.val k)
  obtain⟨p,hp,fY⟩:=B5.mp hw;refine wpAny_getItem_heap (Io hu) (zU I.hok eb) dd hp ?_;rw[fY];exact h w' _ (I.tok _) rw'
def v3T{Q:VP}(hu:A.units+1<D8)(I:a9 X aa U H s)(g:n8 H a y o)(ry:f9 y u)(h:∀s',a9 X aa U H s'->Q (.bool o.isSome) s'):
  Ah (Aw X.prog X.w) A (De .In u (.ref a)) Q E s:=by
 rcases g with⟨kvs,k,e,ey,l⟩|⟨kvs,k,b,e,ey,eb,l⟩
 .subst ey;obtain⟨z,hd,vs,aN,dd⟩:=xR I.hok e;refine wpAny_in_of (xU ry) hd dd.mapOf ?_;rw[<-(aN.val k).isSome_eq,<-l];exact h _ (I.tok _)
 .subst ey;cases (show u=Co b from ry);obtain⟨z,hd,xs,aN,dd⟩:=AR I.hok e;refine wpAny_in_heap (Io hu) (zU I.hok eb) hd dd ?_;have q:=(aN.val k).isSome_eq;rw[G4]at q;rw[<-q,<-l];exact h _ (I.tok _)
def Ź{Q:VP}(hu:A.units+1<D8)(I:a9 X aa U H s)(g:n8 H a y o)(ry:f9 y u)(h:∀s',a9 X aa U H s'->Q (.bool (!o.isSome)) s'):
  Ah (Aw X.prog X.w) A (De .NotIn u (.ref a)) Q E s:=by
 rcases g with⟨kvs,k,e,ey,l⟩|⟨kvs,k,b,e,ey,eb,l⟩
 .subst ey;obtain⟨z,hd,vs,aN,dd⟩:=xR I.hok e;refine wpAny_notIn_of (xU ry) hd dd.mapOf ?_;rw[<-(aN.val k).isSome_eq,<-l];exact h _ (I.tok _)
 .subst ey;cases (show u=Co b from ry);obtain⟨z,hd,xs,aN,dd⟩:=AR I.hok e;refine wpAny_notIn_heap (Io hu) (zU I.hok eb) hd dd ?_;have q:=(aN.val k).isSome_eq;rw[G4]at q;rw[<-q,<-l];exact h _ (I.tok _)
def EC{t':Nat}(I:a9 X aa U H s)(mu:BL (H a))(hs:Dd a s.heap h')(he:∃q,h'.get? a=some q)(new:kX X.prog X.w (upd H a ob) h' a ob):
  a9 X aa U (upd H a ob) { s with heap:=h',toks:=t' }:=
 I.write (x:=a) (e:=a) mu (.inl rfl) (λb q hb z=>(hs.2 b hb).trans z) he new
def EW{h':Ch}{kvs:List (d4×V)}(z:kvs.length<=sizeLine)(hd:(a==G6)=false)(aN:KV kvs vs)(dd:h'.DictOf (mX P w) a vs):
  kX P w H' h' a (.dK kvs):=⟨z,hd,vs,aN,dd⟩
def X6{Q:Unit->Ae->Prop}(hu:A.units+1<D8)(I:a9 X aa U H s)(g:vT H a y v H')(ry:f9 y u)(rv:f9 v r)(h:∀s',a9 X aa U H' s'->Q () s'):
  Ah (Aw X.prog X.w) A (setItem (.ref a) u r) Q E s:=by
 rcases g with⟨kvs,k,e,ey,l,eH⟩|⟨kvs,k,b,e,ey,eb,l,eH⟩
 .subst ey eH;obtain⟨z,hd,vs,aN,dd⟩:=vS I.hok e
  have hz:vs.length<=sizeLine:=by rw[<-aN.length];exact z
  have hl:(lX kvs k v).length<=sizeLine:=by have:=DN kvs k v;omega
  refine wpAny_setItem_pairs (hsz:=hz) (xU ry) dd λh' dn hs=>h _ ?_
  have he:∃q,h'.get? a=some q:=let ⟨q,_,_,hq,_⟩:=dn;⟨q,hq⟩
  exact EC I (by rw[e];exact L6) hs he (EW hl hd (aN.put k rv) dn)
 .subst ey eH;cases (show u=Co b from ry);obtain⟨z,hd,xs,aN,dd⟩:=v25 I.hok e
  have hz:xs.length<=sizeLine:=by rw[<-Lv aN];exact z
  have hl:(lX kvs k v).length<=sizeLine:=by have:=DN kvs k v;omega
  refine wpAny_setItem_heap (hsz:=hz) (Io hu) (zU I.hok eb) dd λh' dn hs=>h _ ?_;obtain⟨q,es,ep,hq,h2,h3,h4,_,h5⟩:=dn;refine EC I (by rw[e];exact L6) hs ⟨q,hq⟩ ⟨hl,hd,_,(aN.put k eb rv).keeps λc ys ec=>?_,q,es,ep,hq,h2,h3,h4,h5⟩
  rw[j3 (v1U ec e (λz=>nomatch z))];exact ec
end
section
variable{X:Cx}{aa:i6}{U:St}{H:Hp}{s:Ae}{a:As}{kvs:List (d4×V)}{k:d4}{u:A9}{A:Bz}{E:VP}
def v26{Q:VP}(I:a9 X aa U H s)(e:Rd H a (.dK kvs))(h:∀t s',a9 X aa U H s'->Q (.int kvs.length t) s'):Ah (Aw X.prog X.w) A (call (.builtin "len") [.ref a]) Q E s:=by
 obtain⟨z,hd,vs,aN,dd⟩:=xR I.hok e;refine call_len_dict hd dd (by rw[<-aN.length];rw[Bk]at z;omega) ?_
 rw[<-aN.length];exact h _ _ (I.tok _)
end
def BB(i:Expr):Prop:=∀ov iv,My i false ov iv=operate [ov,iv] (Ja ov iv)
def RX{prog:Bs}{w:Ce}{A:Bz}{E:VP}{s:Ae}{env:O7}{value aL:Expr}{pos:Hi}{T id:String}{Q:VP}(hl:L5 (.type T) "__getitem__" = Ci (some (.builtin id)))(hs:BB aL)(h:Ah (Aw prog w) A (Ec value env) (λo s₁=>Ah (Aw prog w) A (Ec aL env) (λi s₂=>s₂.TypeIs o T/\Ah (Aw prog w) A (Ja o i) Q E s₂) E s₁) E s):
  Ah (Aw prog w) A (Ec (.Subscript value aL pos) env) Q E s:=by
 refine Nr (Cm h (λo s₁ h₁=>Cm h₁ (λi s₂ h₂=>?_) λ_ _ x=>x) λ_ _ x=>x);obtain⟨hT,h₂⟩:=h₂;unfold Ly;refine A0 ?_;rw[getitemInPython_of_ne hT.not_modules];refine A0 (F5 hT hl ?_)
 have fin:Ah (Aw prog w) A (My aL false o i) (λr s₃=>Ah (Aw prog w) A (letTemporaryGo value o r >>= λ_=>Ci r) Q E s₃) E s₂:=by rw[hs o i];exact wpAny_operating (Cm h₂ (λr s₃ h₃=>A0 (wpAny_letTemporaryGo (x6 h₃))) λ_ _ x=>x)
 first
  |exact x6 (A0 fin)
  |exact A0 (x6 (A0 fin))
  |exact A0 fin
def Ĳ(I:a9 X aa U H s)(g:n8 H a y o):s.TypeIs (.ref a) "dict":=by
 rcases g with⟨kvs,k,e,_,_⟩|⟨kvs,k,b,e,_,_,_⟩
 .obtain⟨_,_,vs,_,dd⟩:=xR I.hok e;exact dd.typeIs
 .obtain⟨_,_,xs,_,dd⟩:=AR I.hok e;exact dd.typeIs
def v18(td ty:TE):TE:=λU H Q=>td U H λx H1=>ty U H1 λy H2=>∃a v,x = .ref a/\n8 H2 a y (some v)/\Q v H2
def Vg(ty td:TE):TE:=λU H Q=>ty U H λy H1=>td U H1 λx H2=>∃a o,x = .ref a/\n8 H2 a y o/\Q (.bl o.isSome) H2
def IT(ty td:TE):TE:=λU H Q=>ty U H λy H1=>td U H1 λx H2=>∃a o,x = .ref a/\n8 H2 a y o/\Q (.bl (!o.isSome)) H2
def v1F(td ty tv:TE):TS:=λD U H=>tv U H λv H1=>td U H1 λx H2=>ty U H2 λy H3=>∃a H4,x = .ref a/\vT H3 a y v H4/\D.nx U H4
section
variable{X:Cx}{o i e value:Expr}{pos aS cT:Hi}{td ty tv:TE}
def Î(hu:X.A.units+1<D8)(ho:PE X o td)(hi:PE X i ty)(hs:BB i):PE X (.Subscript o i pos) (v18 td ty):=by
 intro aa s U H Q I h;refine RX PySem.F.slot_dict_getitem.lookup hs (jK (ho aa s U H _ I h) λu s1 x H1 I1 rx q1=>jK (hi aa s1 U H1 _ I1 q1) λiv s2 y H2 I2 ry ⟨a,v,ex,g,q2⟩=>?_);subst ex
 obtain rfl:u=Co a:=rx
 exact⟨Ĳ I2 g,X5 hu I2 g ry λw' s3 I3 rw'=>⟨v,H2,I3,rw',q2⟩⟩
def ł(hu:X.A.units+1<D8)(hi:PE X i ty)(ho:PE X o td):PC X .In i o (Vg ty td):=by
 intro aa s U H Q I h;refine jK (hi aa s U H _ I h) λiv s1 y H1 I1 ry q1=>jK (ho aa s1 U H1 _ I1 q1) λu s2 x H2 I2 rx ⟨a,ov,ex,g,q2⟩=>?_;subst ex
 obtain rfl:u=Co a:=rx
 exact v3T hu I2 g ry λs3 I3=>⟨.bl ov.isSome,H2,I3,rfl,q2⟩
def PH(hu:X.A.units+1<D8)(hi:PE X i ty)(ho:PE X o td):PC X .NotIn i o (IT ty td):=by
 intro aa s U H Q I h;refine jK (hi aa s U H _ I h) λiv s1 y H1 I1 ry q1=>jK (ho aa s1 U H1 _ I1 q1) λu s2 x H2 I2 rx ⟨a,ov,ex,g,q2⟩=>?_;subst ex
 obtain rfl:u=Co a:=rx
 exact Ź hu I2 g ry λs3 I3=>⟨.bl (!ov.isSome),H2,I3,rfl,q2⟩
def Ó(hu:X.A.units+1<D8)(ho:PE X o td)(hi:PE X i ty)(hv:PE X value tv)(hs:Er value (some (.Subscript o i aS)) pos.line X.env=Ci false):
  PS X (.Assign [.Subscript o i aS] value pos) (v1F td ty tv):=by
 intro aa s U H D I h;refine wpAny_Assign_Subscript (jK (hv aa s U H _ I h) λr s1 v H1 I1 rv q1=>jK (ho aa s1 U H1 _ I1 q1) λu s2 x H2 I2 rx q2=>jK (hi aa s2 U H2 _ I2 q2) λiv s3 y H3 I3 ry ⟨a,H4,ex,g,q3⟩=>?_) hs;subst ex
 obtain rfl:u=Co a:=rx
 exact X6 hu I3 g ry rv λs4 I4=>⟨U,H4,I4,q3⟩
end
def ϑ(h:Ch)(hb:G6<h.objs.size):kX P w H (h.push { cls:=.type "dict",data:=.dict #[] }) h.objs.size (.dK []):=
 ⟨Bh _,beq_eq_false_iff_ne.mpr (Cz (An hb)),[],.nil,Ch.DictOf.new h⟩
def ū:TE:=λ_ H Q=>∀p,H p=none->Q (.ref p) (upd H p (.dK []))
section
variable{X:Cx}{pos:Hi}
def Ϯ:PE X (.Dict [] [] pos) ū:=λaa s U H Q I h=>wpAny_Dict_empty ⟨.ref s.heap.objs.size,_,I.laid (a:=s.heap.objs.size) (o:=.dK []) (t':=s.toks) (λ_ _ q=>A8 _ q) (Ad _) (ϑ s.heap I.big),rfl,h _ (I.hok.fresh (Ad _))⟩
end
end L2
namespace L3
open PySem PySem.Spec PyProof.Rows L2 PySem.SeqAt
def rQ:D->Option d4
 | .int i=>some (.inl i)
 | .str x=>some (.inr x)
 |_=>none
def lD:List d4->List D->d4->Option D
 |k::ks,v::vs,j=>if k=j then some v else lD ks vs j
 |_,_,_=>none
def lI:List d4->List D->d4->D->List d4×List D
 |k::ks,v::vs,j,d=>if k=j then (k::ks,d::vs) else (k::(lI ks vs j d).1,v::(lI ks vs j d).2)
 |_,_,j,d=>([j],[d])
def oS:List (d4×V)->d4->V->List (d4×V)
 | [],j,d=>[(j,d)]
 |p::r,j,d=>if p.1=j then (p.1,d)::r else p::oS r j d
theorem CW(j:d4)(d:V):∀kvs:List (d4×V),(kvs.map (·.1)).Nodup->lX kvs j d=oS kvs j d
 | [],_=>rfl
 |p::r,hn=>by
  rw[Ai,By]at hn;have ih:=CW j d r hn.2;unfold oS;by_cases e:p.1=j
  .rw[y6 e];unfold lX
   have ha:((p::r).any λkv=>decide (kv.1=j))=true:=by rw[Fc,Y1 e,O1]
   rw[y6 ha,Ai,y6 e];congr 1
   have:∀kv∈r,(if kv.1=j then (kv.1,d) else kv)=kv:=λkv hkv=>y8 λz=>hn.1 (by rw[e,<-z];exact Cd hkv)
   exact(B6 this).trans (Lj _)
  .rw[y8 e,<-ih];unfold lX;rw[Fc,W4 e,M0];by_cases h:(r.any λkv=>decide (kv.1=j))=true
   .rw[y6 h,y6 h,Ai,y8 e]
   .rw[y8 h,y8 h];rfl
section
variable{K:A5}{H:Hp}
theorem SK:∀{kvs:List (d4×V)} {vs:List D} {j:d4} {d:D},J3 K H vs (kvs.map (·.2))->lD (kvs.map (·.1)) vs j=some d->∃v,l6 kvs j=some v/\e9 K H d v
 | [],vs,j,d,_,e=>by cases vs<;>cases e
 |p::r,vs,j,d,h,e=>by
  cases vs with
  |nil=>cases e
  |cons x xs=>
   obtain⟨v,ws,e1,h1,h2⟩:=j7.mp h;rw[Ai]at e1;cases e1;rw[Ai]at e;unfold lD at e;by_cases z:p.1=j
   .rw[y6 z]at e;cases e;exact⟨_,zA z,h1⟩
   .rw[y8 z]at e;obtain⟨v,q1,q2⟩:=SK h2 e;exact⟨v,by rw[yZ z];exact q1,q2⟩
theorem zF:∀{kvs:List (d4×V)} {vs:List D} {j:d4},J3 K H vs (kvs.map (·.2))->(lD (kvs.map (·.1)) vs j).isSome=(l6 kvs j).isSome
 | [],vs,j,_=>by cases vs<;>rfl
 |p::r,vs,j,h=>by
  cases vs with
  |nil=>cases J9.mp h
  |cons x xs=>
   obtain⟨v,ws,e1,h1,h2⟩:=j7.mp h;rw[Ai]at e1;cases e1;rw[Ai];unfold lD;by_cases z:p.1=j
   .rw[y6 z,zA z];rfl
   .rw[y8 z,yZ z];exact zF h2
theorem EK:∀{kvs:List (d4×V)} {vs:List D} {j:d4} {d:D} {v:V},J3 K H vs (kvs.map (·.2))->e9 K H d v->(oS kvs j v).map (·.1)=(lI (kvs.map (·.1)) vs j d).1/\J3 K H (lI (kvs.map (·.1)) vs j d).2 ((oS kvs j v).map (·.2))
 | [],vs,j,d,v,h,hd=>by
  obtain rfl:vs=[]:=by cases vs with|nil=>rfl|cons _ _=>obtain⟨_,_,e,_⟩:=j7.mp h;cases e
  exact⟨rfl,J3.one hd⟩
 |p::r,vs,j,d,v,h,hd=>by
  cases vs with
  |nil=>cases J9.mp h
  |cons x xs=>
   obtain⟨y,ws,e1,h1,h2⟩:=j7.mp h;rw[Ai]at e1;cases e1;rw[Ai];unfold oS lI;by_cases z:p.1=j
   .rw[y6 z,y6 z];exact⟨rfl,J3.cons hd h2⟩
   .rw[y8 z,y8 z];obtain⟨q1,q2⟩:=EK (j:=j) (d:=d) (v:=v) h2 hd;exact⟨by rw[Ai,q1],J3.cons h1 q2⟩
end
theorem wO{K:A5}{H:Hp}{d:D}{k:d4}{v:V}(e:rQ d=some k)(h:e9 K H d v):v=kV k:=by
 cases d with
 |int i=>cases e;exact v7.mp h
 |str x=>cases e;exact mB.mp h
 |_=>cases e
section
variable{X:Cx}{a b e o:Expr}{pos aS p:Hi}{f fa fb:ED}
def pe_or(h1:PE X e t1)(h2:PE X e t2):PE X e (λU H Q=>t1 U H Q\/t2 U H Q):=λaa s U H Q I h=>by
 rcases h with h|h
 .exact h1 aa s U H Q I h
 .exact h2 aa s U H Q I h
def v1O(h1:PT X e t1)(h2:PT X e t2):PT X e (λU H Q=>t1 U H Q\/t2 U H Q):=λaa s U H Q I h=>by
 rcases h with h|h
 .exact h1 aa s U H Q I h
 .exact h2 aa s U H Q I h
def nN{α:Type}(f g:J5->Option α):J5->Option α:=λY=>match f Y with|some d=>some d|none=>g Y
def ţ(h1:SE X e fa)(h2:SE X e fb):SE X e (nN fa fb):=j6 (pe_or h1 h2) λU H Q h_=>by
 refine f7 h_ λY d B H0 V0 Z e r q=>?_;unfold nN at e;split at e
 .rename_i d' h;cases e;exact .inl ⟨Y,_,B,H0,V0,Z,h,r,q⟩
 .exact .inr ⟨Y,_,B,H0,V0,Z,e,r,q⟩
def UM(h1:vZ X e ga)(h2:vZ X e gb):vZ X e (nN ga gb):=qB (v1O h1 h2) λU H Q h_=>by
 refine f7 h_ λY d B H0 V0 Z e r q=>?_;unfold nN at e;split at e
 .rename_i d' h;cases e;exact .inl ⟨Y,_,B,H0,V0,Z,h,r,q⟩
 .exact .inr ⟨Y,_,B,H0,V0,Z,e,r,q⟩
def sB:BJ X (.Dict [] [] pos) (λ_=>some ([],[])):=
 ⟨j6 Ϯ λU H Q ⟨Y,ds,B,H0,V0,Z,e,r,q⟩ p hp=>by
 cases e
 exact q p [] _ (u9 hp) hp w6 rfl J3.nil⟩
def pH(fa fb:ED):ED:=λY=>match fa Y with
 |some (.dct ks vs)=>(match fb Y with|some kd=>(match rQ kd with|some k=>lD ks vs k|none=>none)|none=>none)
 |_=>none
def é(hu:X.A.units+64<D8)(ho:SE X o fa)(hi:SE X a fb)(hs:BB a:=by exact λ_ _=>rfl):SE X (.Subscript o a pos) (pH fa fb):=
 j6 (Î ⋯ ho hi hs) λU H Q h_=>by
  refine f7 h_ λY d B H0 V0 Z e r q=>?_;unfold pH at e;split at e
  .rename_i ks vs ed;split at e
   .rename_i kd ek;split at e
    .rename_i k hk;refine⟨Y,_,B,H0,V0,Z,ed,r,λx H1 s1 r1=>⟨Y,kd,B,H0,V0,Z,ek,r.mono s1,λy H2 s2 r2=>?_⟩⟩;obtain⟨n,kvs,rfl,h1,h2,h3⟩:=mQ.mp (r1.mono (x9 s2));subst h2;obtain⟨v,q1,q2⟩:=SK h3 e
     obtain rfl:=wO hk r2
     refine⟨n,v,rfl,?_,q v H2 (s1.trans s2) q2⟩;rw[<-q1];exact n8.k (Z4 h1).2
    .cases e
   .cases e
  .cases e
def qF(i:Nat):J5->Option (List d4×List D):=λY=>match Y[i]? with|some (some (.od ks vs))=>some (ks,vs)|_=>none
def vH{d:List d4×List D}(e:qF i Y=some d):Y[i]?=some (some (.od d.1 d.2)):=by
 unfold qF at e;split at e
 .rename_i h;cases e;exact h
 .cases e
def NH(i:Nat)(fb:ED):ED:=λY=>match qF i Y with
 |some d=>(match fb Y with|some kd=>(match rQ kd with|some k=>lD d.1 d.2 k|none=>none)|none=>none)
 |_=>none
def sR(dq:Bool)(fb fa:ED):ED:=λY=>match fb Y with
 |some kd=>(match fa Y with|some (.dct ks vs)=>(match rQ kd with|some k=>some (.bl (if dq then !(lD ks vs k).isSome else (lD ks vs k).isSome))|none=>none)|_=>none)
 |none=>none
def xN(dq:Bool)(fb:ED)(i:Nat):ED:=λY=>match fb Y with
 |some kd=>(match qF i Y with|some d=>(match rQ kd with|some k=>some (.bl (if dq then !(lD d.1 d.2 k).isSome else (lD d.1 d.2 k).isSome))|none=>none)|_=>none)
 |none=>none
def ź{K:A5}:∀U H Q,tD K (sR false fb fa) U H Q->Vg (tD K fb) (tD K fa) U H Q:=λU H Q h_=>by
 refine f7 h_ λY d B H0 V0 Z e r q=>?_;unfold sR at e;split at e
 .rename_i kd ek;split at e
  .rename_i ks vs ed;split at e
   .rename_i k hk;cases e;refine⟨Y,kd,B,H0,V0,Z,ek,r,λy H1 s1 r1=>⟨Y,_,B,H0,V0,Z,ed,r.mono s1,λx H2 s2 r2=>?_⟩⟩;obtain⟨n,kvs,rfl,h1,h2,h3⟩:=mQ.mp r2;subst h2
    obtain rfl:=wO hk r1
    refine⟨n,l6 kvs k,rfl,n8.k (Z4 h1).2,?_⟩;rw[zF h3]at q;exact q _ H2 (s1.trans s2) (Q3.mpr rfl)
   .cases e
  .cases e
 .cases e
def ϒ{K:A5}:∀U H Q,tD K (sR true fb fa) U H Q->IT (tD K fb) (tD K fa) U H Q:=λU H Q h_=>by
 refine f7 h_ λY d B H0 V0 Z e r q=>?_;unfold sR at e;split at e
 .rename_i kd ek;split at e
  .rename_i ks vs ed;split at e
   .rename_i k hk;cases e;refine⟨Y,kd,B,H0,V0,Z,ek,r,λy H1 s1 r1=>⟨Y,_,B,H0,V0,Z,ed,r.mono s1,λx H2 s2 r2=>?_⟩⟩;obtain⟨n,kvs,rfl,h1,h2,h3⟩:=mQ.mp r2;subst h2
    obtain rfl:=wO hk r1
    refine⟨n,l6 kvs k,rfl,n8.k (Z4 h1).2,?_⟩;rw[zF h3]at q;exact q _ H2 (s1.trans s2) (Q3.mpr rfl)
   .cases e
  .cases e
 .cases e
def X8{K:A5}{i:Nat}:∀U H Q,tD K (xN true fb i) U H Q->IT (tD K fb) (AZ i) U H Q:=λU H Q h_=>by
 refine f7 h_ λY d B H0 V0 Z e r q=>?_;unfold xN at e;split at e
 .rename_i kd ek;split at e
  .rename_i dd ed;split at e
   .rename_i k hk;cases e;obtain⟨n,kvs,h1,h2,hb,h3,h4,h5,h6⟩:=r.od i dd.1 dd.2 (vH ed);refine⟨Y,kd,B,H0,V0,Z,ek,r,λy H1 s1 r1=>⟨.ref n,h1,?_⟩⟩
    obtain rfl:=wO hk r1
    refine⟨n,l6 kvs k,rfl,n8.k (s1 _ _ h4),?_⟩;rw[<-h5,zF h6]at q;exact q _ H1 s1 (Q3.mpr rfl)
   .cases e
  .cases e
 .cases e
def Zg(i:Nat){x:Ba}(hu:X.A.units+64<D8)(hi:ZE X a fb)(hN:X.N[i]?=some x:=by rfl)(hv:mS X.env.scope x:=by first|exact E7 rfl|exact D3 (E7 rfl)|exact D3 (D3 rfl))(hd:(x==("__debug__":Ba))=false:=by decide)(aO:(x==("__classdict__":Ba))=false:=by decide):ZT X (.Compare a [.NotIn] [.Name x p] pos) (u0 (xN true fb i)):=
 ⟨have hi:=hi.h;
 qB (LB (PH ⋯ hi (nW hN hv hd aO)) rfl) λU H Q h=>X8 _ _ _ (tY U H Q h)⟩
def ü(hu:X.A.units+64<D8)(ha:ZE X a fb)(hb:ZE X b fa)(hm:Dj .In b=false:=by with_unfolding_all rfl):ZT X (.Compare a [.In] [b] pos) (nN (u0 (kN false fb (b9 fa))) (u0 (sR false fb fa))):=
 ⟨have ha:=ha.h;
 have hb:=hb.h;
 UM (TZ hu ha (NA hb) hm) (qB (LB (ł ⋯ ha hb) hm) λU H Q h=>ź _ _ _ (tY U H Q h))⟩
def Χ(hu:X.A.units+64<D8)(ha:ZE X a fb)(hb:ZE X b fa)(hm:Dj .NotIn b=false:=by with_unfolding_all rfl):ZT X (.Compare a [.NotIn] [b] pos) (nN (u0 (kN true fb (b9 fa))) (u0 (sR true fb fa))):=
 ⟨have ha:=ha.h;
 have hb:=hb.h;
 UM (UL hu ha (NA hb) hm) (qB (LB (PH ⋯ ha hb) hm) λU H Q h=>ϒ _ _ _ (tY U H Q h))⟩
def nO(i:Nat)(fk fv:ED):EO:=λY=>match fv Y with
 |some v=>(match qF i Y with
  |some d=>(match fk Y with
   |some kd=>(match rQ kd with|some k=>if d.1.Nodup/\d.1.length<f8 then some (.nx (Y.set i (some (.od (lI d.1 d.2 k v).1 (lI d.1 d.2 k v).2)))) else none|none=>none)
   |none=>none)
  |none=>none)
 |none=>none
def yP{i:Nat}{x:Ba}(hu:X.A.units+64<D8)(hi:ZE X a fb)(cG:ZE X b fa)(hN:X.N[i]?=some x:=by rfl)(hv:mS X.env.scope x:=by first|exact E7 rfl|exact D3 (E7 rfl)|exact D3 (D3 rfl))(hd:(x==("__debug__":Ba))=false:=by decide)(aO:(x==("__classdict__":Ba))=false:=by decide)(hs:Er b (some (.Subscript (.Name x p) a aS)) pos.line X.env=Ci false:=by rfl):ZS X (.Assign [.Subscript (.Name x p) a aS] b pos) (nO i fb fa):=
 ⟨have hi:=hi.h;
 have cG:=cG.h;
 mY (Ó ⋯ (nW hN hv hd aO) hi cG hs) λE U H h_=>by
  refine f7 h_ λY o B H0 V0 Z e r q=>?_;unfold nO at e;split at e
  .rename_i v ev;split at e
   .rename_i dd ed;split at e
    .rename_i kd ek;split at e
     .rename_i k hk;split at e
      .rename_i hz;cases e;obtain⟨n,kvs,h1,h2,hb,h3,h4,h5,h6⟩:=r.od i dd.1 dd.2 (vH ed);refine⟨Y,v,B,H0,V0,Z,ev,r,λy H1 s1 r1=>⟨.ref n,h1,Y,kd,B,H0,V0,Z,ek,r.mono s1,λz H2 s2 r2=>?_⟩⟩
       obtain rfl:=wO hk r2
       have ab:kvs.length<sizeLine:=by
        have:kvs.length=dd.1.length:=by rw[<-h5,A3]
        rw[this];exact zW (Dc hz.2)
       refine⟨n,_,rfl,vT.k (s2 _ _ (s1 _ _ h4)) ab,?_⟩;rw[CW k y kvs (by rw[h5];exact hz.1)]
       have R2:=(r.mono s1).mono s2;obtain⟨p1,p2⟩:=EK (j:=k) (h6.mono (x9 (s1.trans s2))) (r1.mono (x9 s2));rw[h5]at p1 p2;exact q U _ Z (R2.updC (c:=.d dd.1 dd.2) (e:=.d (lI dd.1 dd.2 k v).1 (lI dd.1 dd.2 k v).2) (vH ed) h1 ⟨_,rfl,p1,p2⟩)
      .cases e
     .cases e
    .cases e
   .cases e
  .cases e⟩
end
section
variable{prog:Bs}{w:Ce}{A:Bz}{E:VP}{s:Ae}{R:Kz->Ae->Prop}
def Kp(it S:As)(h h':Ch):Prop:=∀b o,b≠it->b≠S->h.get? b=some o->h'.get? b=some o
def Kp.trans(a:Kp it S h h1)(b:Kp it S h1 h2):Kp it S h h2:=λc o n1 n2 e=>b c o n1 n2 (a c o n1 n2 e)
abbrev mmL:String->Oi->C1:=(λ(f:String->Oi->C1) (_:f "max" .Gt=C1.«max.loop»)=>f) _ rfl
abbrev mmB:String->C1:=(λ(f:String->C1) (_:f "max" = C1.max)=>f) _ rfl
structure MM(nm nl:String)(op:Oi):Prop where
 el:L7 O9 nl=some (mmL nm op)
 pl:plainId nl=true
 hn:(L8 nm++L8 ".loop":String)=nl
 k:builtinKind nm=none
 p:plainId nm=true
 e:L7 O9 nm=some (mmB nm)
 a:∀a b:A9,Ia nm { pos:=[a,b] }
def v1W:MM "max" "max.loop" .Gt:=⟨F.entry_max_loop,F.plain_max_loop,∅,F.kind_max,F.plain_max,F.entry_max,F.args_max2⟩
def v1V:MM "min" "min.loop" .Lt:=⟨F.entry_min_loop,F.plain_min_loop,∅,F.kind_min,F.plain_min,F.entry_min,F.args_min2⟩
variable{nm nl:String}{op:Oi}
def Ur(M:MM nm nl op){it T S:As}{u v x:A9}{c:Nat}(hh:A.handled=none)(aG:s.heap.IsTupleIter it T 2)(ht:s.heap.IsTuple T #[u,v])(am:S≠it)(hS:s.heap.get? S=some { cls:=.type "list",dict:=none,data:=.seq #[x,x] c,slots:=#[] })(hR:∀h',Kp it S s.heap h'->R (.ok (.ret x)) { s with heap:=h' }):Eu (Aw prog w) A (.builtin nl ⟨[.ref it,.none,.ref S],[]⟩) R s:=by
 refine codeAny_builtin M.el ?_;rw[Br M.pl _];show Ah _ A.in1 (Ju (.ref S) >>= _) _ _ s;refine A0 (En hS rfl ?_);show Ah _ A.in1 (Gg (Hb (.ref it)) _ >>= _) _ _ s;refine A0 (Eb (Ix hh aG ht (by simp) λh1 k1=>?_));have dY:=k1 S _ am hS;show Ah _ A.in1 (Gh S (λ_=>#[]) >>= _) _ _ _;refine A0 (Ee dY rfl (A0 (Gn (x6 (hR _ λb o n1 n2 e=>?_)))))
 exact(Bd _ _ (Cz n2)).trans (k1 b o n1 e)
theorem ķ(M:MM nm nl op){it T S:As}{u v:A9}{c:Nat}(hh:A.handled=none)(aG:s.heap.IsTupleIter it T 1)(ht:s.heap.IsTuple T #[u,v])(am:S≠it)(gP:T≠it)(hTS:T≠S)(hS:s.heap.get? S=some { cls:=.type "list",dict:=none,data:=.seq #[u,u] c,slots:=#[] })(hc:∀h' (Q:VP) (E:VP),Kp it S s.heap h'->Q (.bool bb) { s with heap:=h' }->Ah (Aw prog w) A.in1 (Gm op v u) Q E { s with heap:=h' })(hR:∀h',Kp it S s.heap h'->R (.ok (.ret (if bb=true then v else u))) { s with heap:=h' }):Eu (Aw prog w) A (.builtin nl ⟨[.ref it,.none,.ref S],[]⟩) R s:=by
 refine codeAny_builtin M.el ?_;rw[Br M.pl _];show Ah _ A.in1 (Ju (.ref S) >>= _) _ _ s;refine A0 (En hS rfl ?_);show Ah _ A.in1 (Gg (Hb (.ref it)) _ >>= _) _ _ s;refine A0 (Eb (Gc aG ht (x:=v) (by simp) λh1 i1 k1=>?_));have gM:Kp it S s.heap h1:=λb o n1 _ e=>(k1.2 b n1).trans e;have dY:=(k1.2 S am).trans hS
 have hT1:h1.IsTuple T #[u,v]:=ht.extBut k1.extBut gP;show Ah _ A.in1 (Gg (Hs [v,v] (Gm op v u >>= _)) _ >>= _) _ _ _;refine A0 (Eb (Ca (A0 (hc h1 _ _ gM ?_))));refine A0 (Ca (Dk (A0 (Gn (x6 ?_)))))
 cases bb with
 |true=>
  simp only[if_true];refine A0 (Ee dY rfl (A0 (Gn ?_)));rw[M.hn];refine x6 ⟨plainId_quiet M.pl _,Ur M (u:=u) (v:=v) (T:=T) hh ?_ ?_ am (C9 _ dY rfl) λh2 k2=>hR h2 (gM.trans (Kp.trans (λb o n1 n2 e=>(Bd _ _ (Cz n2)).trans e) k2))⟩
  .obtain⟨o,e,z⟩:=i1;exact⟨o,(Bd _ _ am).trans e,z⟩
  .obtain⟨o,e,z⟩:=hT1;exact⟨o,(Bd _ _ (Cz hTS)).trans e,z⟩
 |false=>simp only[B4,if_false];refine A0 (Gn ?_);rw[M.hn];exact x6 ⟨plainId_quiet M.pl _,Ur M (u:=u) (v:=v) hh i1 hT1 am dY λh2 k2=>hR h2 (gM.trans k2)⟩
def Ķ(M:MM nm nl op){it T S:As}{u v:A9}{c:Nat}(hh:A.handled=none)(aG:s.heap.IsTupleIter it T 0)(ht:s.heap.IsTuple T #[u,v])(am:S≠it)(gP:T≠it)(hTS:T≠S)(hS:s.heap.get? S=some { cls:=.type "list",dict:=none,data:=.seq #[] c,slots:=#[] })(hc:∀h' (Q:VP) (E:VP),Kp it S s.heap h'->Q (.bool bb) { s with heap:=h' }->Ah (Aw prog w) A.in1 (Gm op v u) Q E { s with heap:=h' })(hR:∀h',Kp it S s.heap h'->R (.ok (.ret (if bb=true then v else u))) { s with heap:=h' }):Eu (Aw prog w) A (.builtin nl ⟨[.ref it,.none,.ref S],[]⟩) R s:=by
 refine codeAny_builtin M.el ?_;rw[Br M.pl _];show Ah _ A.in1 (Ju (.ref S) >>= _) _ _ s;refine A0 (En hS rfl ?_);show Ah _ A.in1 (Gg (Hb (.ref it)) _ >>= _) _ _ s;refine A0 (Eb (Gc aG ht (x:=u) (by simp) λh1 i1 k1=>?_));have gM:Kp it S s.heap h1:=λb o n1 _ e=>(k1.2 b n1).trans e;have dY:=(k1.2 S am).trans hS
 have hT1:h1.IsTuple T #[u,v]:=ht.extBut k1.extBut gP;show Ah _ A.in1 (Gh S (λ_=>#[u,u]) >>= _) _ _ _;refine A0 (Ee dY rfl ?_);rw[M.hn];have ku:Kp it S h1 _:=λb o n1 n2 e=>(Bd h1 (Cg λ_=>#[u,u]) (Cz n2)).trans e;refine x6 ⟨plainId_quiet M.pl _,ķ M (u:=u) (v:=v) (T:=T) (bb:=bb) hh ?_ ?_ am gP hTS (C9 _ dY rfl) (λh' Q E k q=>hc h' Q E (gM.trans (ku.trans k)) q) λh2 k2=>hR h2 (gM.trans (ku.trans k2))⟩
 .obtain⟨o,e,z⟩:=i1;exact⟨o,(Bd _ _ am).trans e,z⟩
 .obtain⟨o,e,z⟩:=hT1;exact⟨o,(Bd _ _ (Cz hTS)).trans e,z⟩
def Us(M:MM nm nl op){Q:VP}(hh:A.handled=none)(hc:∀h' (Q:VP) (E:VP),(∀b o,s.heap.get? b=some o->h'.get? b=some o)->Q (.bool bb) { s with heap:=h' }->Ah (Aw prog w) A.in1 (Gm op v u) Q E { s with heap:=h' })(hQ:∀h',(∀b o,s.heap.get? b=some o->h'.get? b=some o)->Q (if bb=true then v else u) { s with heap:=h' }):Ah (Aw prog w) A (call (.builtin nm) [u,v]) Q E s:=by
 refine call_function_tree M.k M.p M.e (M.a _ _) ?_;show Ah _ A.in1 (C8 nm ["key","default"] 0 ⟨[],[]⟩ >>= _) _ _ s;refine A0 (Cn (show C8 nm ["key","default"] 0 ⟨[],[]⟩=Ci [none,none] from rfl) ?_);show Ah _ A.in1 (O0 [u,v] >>= _) _ _ s;refine A0 (Bc ?_);generalize h1e:s.heap.push { cls:=C4 "tuple",data:=Jc #[u,v] }=h1
 have k1:∀b o,s.heap.get? b=some o->h1.get? b=some o:=λb o e=>by rw[<-h1e];exact A8 _ e
 have t1:h1.IsTuple s.heap.objs.size #[u,v]:=by rw[<-h1e];exact⟨_,Ak _ rfl,rfl,_,rfl⟩
 have z1:h1.objs.size=s.heap.objs.size+1:=by rw[<-h1e,Dx]
 refine A0 (Ev (s:={ s with heap:=h1 }) t1 (A0 (Bc ?_)));generalize h2e:(h1.push { cls:=C4 "tuple_iterator",data:=Data.fields #[.ref s.heap.objs.size,.int 0 0] })=h2
 have k2:∀b o,h1.get? b=some o->h2.get? b=some o:=λb o e=>by rw[<-h2e];exact A8 _ e
 have i2:h2.IsTupleIter h1.objs.size s.heap.objs.size 0:=by rw[<-h2e];exact⟨_,Ak _ rfl,rfl,rfl⟩
 have z2:h2.objs.size=h1.objs.size+1:=by rw[<-h2e,Dx]
 rw[M.hn]
 have hs0:s.heap.objs.size<h1.objs.size:=by rw[z1];exact E4 _
 have fC:h1.objs.size<h2.objs.size:=by rw[z2];exact E4 _
 have k3:∀b o,h2.get? b=some o->(h2.push { cls:=C4 "list",data:=Jc ([]:List A9).toArray }).get? b=some o:=λb o e=>A8 _ e
 have all:∀{h'},Kp h1.objs.size h2.objs.size (h2.push { cls:=C4 "list",data:=Jc ([]:List A9).toArray }) h'->∀b o,s.heap.get? b=some o->h'.get? b=some o:=λ{h'} k b o e=>k b o (An (Dv (Aj e) hs0)) (An (Dv (Aj e) (Dv hs0 fC))) (k3 b o (k2 b o (k1 b o e)))
 refine x6 ⟨plainId_quiet M.pl _,Ķ M (u:=u) (v:=v) (T:=s.heap.objs.size) (bb:=bb) (s:={ s with heap:=h2.push { cls:=C4 "list",data:=Jc ([]:List A9).toArray } }) hh ?_ ?_ (Cw fC) (An hs0) (An (Dv hs0 fC)) (Ak _ rfl) (λh' Q E k q=>hc h' Q E (all k) q) λh' k=>hQ h' (all k)⟩
 .obtain⟨o,e,z⟩:=i2;exact⟨o,k3 _ _ e,z⟩
 .obtain⟨o,e,z⟩:=t1;exact⟨o,k3 _ _ (k2 _ _ e),z⟩
end
section
open HT
def Ta(A:Bz)(s:Ae)(a:Int)(t:Tok)(c:Int)(u:Tok)(prog:Bs)(w:Ce)(E:VP)(Q:VP)(h:Q (.bool (decide (c<a))) s):
  Ah (Aw prog w) A (Gm .Gt (.int a t) (.int c u)) Q E s:=
 (PyProof.Rows.gt_int h:Ah (Aw prog w) A (De .Gt (.int a t) (.int c u)) Q E s)
open PySem.SeqAt
open PySem.AutoSeq1 (wpAny_loadPart')
open PySem.MeetsSeq PySem.MeetsSeq2 PySem.MeetsSeq3
def Xq(l b:As)(items ao:Array A9)(n n2:Nat)(dd cB:Option As)(sl cM:Array (Option A9))(ns ms:List Int)(hi:Cj items.toList ns)(hj:Cj ao.toList ms):
  Oo (C1.«tuple.__gt__» ⟨[.ref l,.ref b],[]⟩)
   (λ_ R s=>s.heap.get? l=some { cls:=.type "tuple",dict:=dd,data:=.seq items n,slots:=sl }/\s.heap.get? b=some { cls:=.type "tuple",dict:=cB,data:=.seq ao n2,slots:=cM } /\
    R (.ok (.ret (.bool (lexLt ms ns)))) s):=
 .of_wp λprog w A R s h=>by
  obtain⟨hp,g,d,tk,os⟩:=s;obtain⟨hl,hb,h⟩:=h;have f2:=AutoSeq1.sub_tuple_tuple
  have z1:items.size=ns.length:=by rw[<-hi.length];simp
  have z2:ao.size=ms.length:=by rw[<-hj.length];simp
  wp_walk using Gv hl,Gv hb,Gd _ (λrest b s'=>b.1=none/\s'=⟨hp,g,d,tk,os⟩/\∃(vs ws:List A9) (bH aP:List Int),rest=vs.zip ws /\
   Cj vs bH/\Cj ws aP/\bH.length+ao.size=aP.length+items.size/\R (.ok (.ret (.bool (lexLt aP bH)))) ⟨hp,g,d,tk,os⟩) _
  case turn=>
   rintro ⟨y,x⟩ rest b s' ⟨aW,rfl,vs,ws,bH,aP,hz,fJ,eE,ab,hR⟩
   cases fJ with
   |nil=>rw[List.zip_nil_left]at hz;cases hz
   |cons a t hvi'=>
    cases eE with
    |nil=>rw[L0]at hz;cases hz
    |cons c u hwi'=>
     rw[Ey]at hz;injection hz with hyx bM;injection hyx with hy hx;subst hy hx;rw[lexLt_cons]at hR;simp only[Au]at ab;obtain⟨e,he,dN⟩:=Sm A.in1 ⟨hp,g,d,tk,os⟩ a t c u;refine A0 (he prog w _ _ ?_)
     cases e with
     |true=>
      rw[y6 (dN.mp rfl).symm]at hR
      wp_walk
      exact⟨rfl,rfl,_,_,_,_,bM,hvi',hwi',⋯,hR⟩
     |false=>
      rw[y8 (λq=>u3 (dN.mpr q.symm) Ay)]at hR;have hri:=Ta A.in1 ⟨hp,g,d,tk,os⟩ a t c u prog w
      wp_walk using hri
      exact⟨_,rfl,by simpa using hR⟩
  case fin=>
   rintro ⟨b1,b2⟩ s' ⟨aW,rfl,vs,ws,bH,aP,hz,fJ,eE,ab,hR⟩;simp only at aW;subst aW
   have hv:lexLt aP bH=decide (ao.size<items.size):=by
    cases fJ with
    |nil=>
     cases eE with
     |nil=>simp only[Ed]at ab;rw[lexLt_nil_nil];exact(W4 ⋯).symm
     |cons c u hw=>simp only[Ed,Au]at ab;rw[OM];exact(W4 ⋯).symm
    |cons a t hv=>
     cases eE with
     |nil=>simp only[Ed,Au]at ab;rw[ON];exact(Y1 ⋯).symm
     |cons c u hw=>rw[Ey]at hz;cases hz
   rw[hv]at hR
   wp_walk
   exact⟨_,rfl,by simpa [C1.Tuple.tupleCompareSizes] using hR⟩
  case h=>exact⟨rfl,rfl,items.toList,ao.toList,ns,ms,rfl,hi,hj,⋯,h⟩
end
section
variable{prog:Bs}{w:Ce}{A:Bz}{E:VP}{s:Ae}
def Qg{Q:VP}(hl:Jo s.heap l items)(hb:Jo s.heap b ao)(hi:Cj items.toList ns)(hj:Cj ao.toList ms)(hu:A.units<D8)(h:Q (.bool (HT.lexLt ms ns)) s):Ah (Aw prog w) A (Gm .Gt (.ref l) (.ref b)) Q E s:=by
 rcases id hl with⟨⟨cls,dd,data,sl⟩,ho,hc,n,hd⟩;rcases id hb with⟨⟨eO,cB,data2,cM⟩,ce,aY,n2,bw⟩;simp only at hc hd aY bw;subst hc hd aY bw
 exact richCompare_meets_room (op:=.Gt) ⟨_,ho,rfl⟩ ⟨_,ce,rfl⟩ PySem.F.slot_tuple_gt PySem.F.entry_tuple_gt (PySem.F.args_tuple_gt_2 _ _) (Xq l b items ao n n2 dd cB sl cM ns ms hi hj)
  ⟨ho,ce,show Np (HT.lexLt ms ns)≠Kc/\Q (.bool (HT.lexLt ms ns)) s from ⟨(λx=>nomatch x),h⟩⟩ hu
end
section
variable{X:Cx}{a b:Expr}{fa fb:ED}{p pos:Hi}
def UA(K:A5):List V->Hp->VK->Prop:=λxs H Q=>∃a b ns ms,xs=[.ref a,.ref b]/\i8 K H a (ns.map V.int)/\i8 K H b (ms.map V.int)/\Q (if HT.lexLt ns ms=true then .ref b else .ref a) H
def UB(K:A5):List V->Hp->VK->Prop:=λxs H Q=>∃a b ns ms,xs=[.ref a,.ref b]/\i8 K H a (ns.map V.int)/\i8 K H b (ms.map V.int)/\Q (if HT.lexLt ms ns=true then .ref b else .ref a) H
def Zz(hc:X.calm=true)(hu:X.A.units+64<D8):lC X (.builtin "max") (UA X.K):=by
 intro aa s U H xs us Q I r h;obtain⟨a,b,ns,ms,rfl,ha,hb,q⟩:=h;obtain⟨u,v,rfl,ru,rv⟩:=FN r;cases ru;cases rv;refine Us v1W (bb:=HT.lexLt ns ms) (I.ok.hd hc) (λh' Q' E' k q'=>?_) λh' k=>?_
 .have I':a9 X aa U H { s with heap:=h' }:=I.kept (t':=s.toks) k;obtain⟨its,r1,p1,_⟩:=I'.tuple ha;obtain⟨aq,r2,p2,_⟩:=I'.tuple hb;exact Qg (s:={ s with heap:=h' }) p2 p1 (show Cj aq.toArray.toList ms from Z3 r2) (show Cj its.toArray.toList ns from Z3 r1) (by show X.A.units+1<D8;omega) q'
 .refine⟨_,H,I.kept (t':=s.toks) k,?_,q⟩
  split<;>rfl
def ZH(hc:X.calm=true)(hu:X.A.units+64<D8):lC X (.builtin "min") (UB X.K):=by
 intro aa s U H xs us Q I r h;obtain⟨a,b,ns,ms,rfl,ha,hb,q⟩:=h;obtain⟨u,v,rfl,ru,rv⟩:=FN r;cases ru;cases rv;refine Us v1V (bb:=HT.lexLt ms ns) (I.ok.hd hc) (λh' Q' E' k q'=>?_) λh' k=>?_
 .have I':a9 X aa U H { s with heap:=h' }:=I.kept (t':=s.toks) k;obtain⟨its,r1,p1,_⟩:=I'.tuple ha;obtain⟨aq,r2,p2,_⟩:=I'.tuple hb
  have:=HT.lt_tupInts (prog:=X.prog) (w:=X.w) (A:=X.A.in1) (E:=E') (Q:=Q') (s:={ s with heap:=h' }) p2 p1 (show Cj aq.toArray.toList ms from Z3 r2) (show Cj its.toArray.toList ns from Z3 r1) (by show X.A.units+1<D8;omega) q'
  exact this
 .refine⟨_,H,I.kept (t':=s.toks) k,?_,q⟩
  split<;>rfl
def AT:D->Option (List Int)
 | .tup ds=>lJ ds
 |_=>none
def LV:LD:=λds=>match ds with|[x,y]=>(match AT x,AT y with|some ns,some ms=>some (if HT.lexLt ns ms=true then y else x)|_,_=>none)|_=>none
def LX:LD:=λds=>match ds with|[x,y]=>(match AT x,AT y with|some ns,some ms=>some (if HT.lexLt ms ns=true then y else x)|_,_=>none)|_=>none
theorem DE{K:A5}{H:Hp}{d:D}{ns:List Int}{v:V}(e:AT d=some ns)(h:e9 K H d v):∃a,v = .ref a/\i8 K H a (ns.map V.int):=by
 cases d with
 |tup ds=>have e':lJ ds=some ns:=e;obtain⟨a,xs,rfl,h1,h2⟩:=j5.mp h;rw[rF e',Y9]at h2;subst h2;exact⟨a,rfl,h1⟩
 |_=>cases e
def ß{K:A5}:pZ K (UA K) LV:=by
 intro ds d e Z H vs Q zs rr q;unfold LV at e;split at e
 .rename_i x y;split at e
  .rename_i ns ms e1 e2;cases e;obtain⟨u,v,rfl,h1,h2⟩:=CI rr;obtain⟨a,rfl,g1⟩:=DE e1 h1;obtain⟨b,rfl,g2⟩:=DE e2 h2;refine⟨a,b,ns,ms,rfl,j9 v4 g1,j9 v4 g2,q _ H (J4.refl H) ?_⟩;split
   .exact h2
   .exact h1
  .cases e
 .cases e
def à{K:A5}:pZ K (UB K) LX:=by
 intro ds d e Z H vs Q zs rr q;unfold LX at e;split at e
 .rename_i x y;split at e
  .rename_i ns ms e1 e2;cases e;obtain⟨u,v,rfl,h1,h2⟩:=CI rr;obtain⟨a,rfl,g1⟩:=DE e1 h1;obtain⟨b,rfl,g2⟩:=DE e2 h2;refine⟨a,b,ns,ms,rfl,j9 v4 g1,j9 v4 g2,q _ H (J4.refl H) ?_⟩;split
   .exact h2
   .exact h1
  .cases e
 .cases e
def pZ.or{K:A5}{r r':List V->Hp->VK->Prop}{F F':LD}(h:pZ K r F)(h':pZ K r' F'):pZ K (λxs H Q=>r xs H Q\/r' xs H Q) (λds=>match F ds with|some d=>some d|none=>F' ds):=by
 intro ds d e Z H vs Q zs rr q;dsimp only at e;split at e
 .rename_i d' hd;cases e;exact .inl (h ds d hd Z H vs Q zs rr q)
 .exact .inr (h' ds d e Z H vs Q zs rr q)
def LU:LD:=λds=>match uH ds with|some d=>some d|none=>LV ds
def LW:LD:=λds=>match rP ds with|some d=>some d|none=>LX ds
def Ρ(hc:X.calm=true)(hu:X.A.units+64<D8)(hm:X.mg "max" = none)(ha:ZE X a fa)(hb:ZE X b fb)(hg:Gl X "max":=by rfl)(he:J0 a=true:=by rfl)(cP:J0 b=true:=by rfl)(au:[b].all J0=true:=by rfl): ZE X (.Call (.Name "max" p) [a,b] [] pos) (x8 LU (z9 fa (z9 fb Q7))):=
 ⟨have ha:=ha.h;
 have hb:=hb.h;
 CJ ((Pe hc).or (Zz hc hu)) (UE.or ß) hm ‹_› (qW ha (qW hb xI cP) he) hg ∅ ∅ he au⟩
def Τ(hc:X.calm=true)(hu:X.A.units+64<D8)(hm:X.mg "min" = none)(ha:ZE X a fa)(hb:ZE X b fb)(hg:Gl X "min":=by rfl)(he:J0 a=true:=by rfl)(cP:J0 b=true:=by rfl)(au:[b].all J0=true:=by rfl): ZE X (.Call (.Name "min" p) [a,b] [] pos) (x8 LW (z9 fa (z9 fb Q7))):=
 ⟨have ha:=ha.h;
 have hb:=hb.h;
 CJ ((Pg hc).or (ZH hc hu)) (UF.or à) hm ‹_› (qW ha (qW hb xI cP) he) hg ∅ ∅ he au⟩
def v1J(K:A5)(nm:Bool):List V->Hp->VK->Prop:=λxs H Q=>∃a n ns,xs=[.ref a]/\i7 K H a ((n::ns).map V.int)/\∀m,m∈(n::ns)->(∀x∈(n::ns),if nm=true then x<=m else m<=x)->Q (.int m) H
def X1(hc:X.calm=true):lC X (.builtin "min") (v1J X.K false):=by
 intro aa s U H xs us Q I r h;obtain⟨a,n,ns,rfl,ha,q⟩:=h;obtain⟨u,rfl,ru⟩:=l7 r;cases ru;obtain⟨its,r1,p1,_⟩:=I.list ha;have i1:Cj its (n::ns):=Z3 r1;obtain⟨zs,e⟩:=i1.allInts.items
 have bP:(n::ns)=zs.toList.map (·.1):=by rw[<-i1.numsOf,<-nums_intItems,<-e]
 have hsz:0<zs.size:=by
  have:=lE Kb bP
  rw[A3,Ar]at this;simp at this;omega
 have hl:=p1.isList;rw[e]at hl;refine min_intList (I.ok.hd hc) hl hsz λv h' tk hv hk=>?_;obtain⟨t,rfl⟩:=intItems_at hv;obtain⟨h1,h2⟩:=argBest_lt (numAt zs) (zs.size-1);refine⟨.int _,H,I.kept hk,⟨t,rfl⟩,q _ ?_ λx hx=>?_⟩
 .rw[bP,numAt_eq];exact getD_mem (by rw[A3,Ar];omega)
 .rw[bP]at hx;obtain⟨j,hj,rfl⟩:=mem_getD hx;rw[A3,Ar]at hj;rw[y8 Ay,<-numAt_eq];exact h2 j ⋯
end
def rR(l:As)(items:Array A9)(n:Nat)(dd:Option As)(sl:Array (Option A9))(x:A9)(e:A9->Bool)(j:Nat)(hj:j<items.size)(aG:e items[j]=true)(cp:∀m (hm:m<items.size),m<j->e items[m]=false):
  Oo (C1.«tuple.index» ⟨[.ref l,x],[]⟩)
   (λA R s=>s.heap.get? l=some { cls:=.type "tuple",dict:=dd,data:=.seq items n,slots:=sl }/\(∀y,y∈items->Ge A.in1 s y x (e y))/\R (.ok (.ret (.int j s.toks))) { s with toks:=s.toks+1 }):=
 .of_wp λprog w A R s h=>by
  obtain⟨hp,g,d,tk,os⟩:=s;obtain⟨hl,he,h⟩:=h
  wp_walk using G8 hl
  change Ah _ _ (forIn [:Mw items.size items.size] (none,()) (λ(i:Nat) __s=>match items[i]? with
    |some y=>do
     let __do_lift <-eqBool y x
     if __do_lift=true then do
       let __do_lift <-retInt (i:Int)
       Ci (ForInStep.done (some __do_lift,()))
      else Ci (F4 (none,()))
    |x=>Ci (F4 (none,())))) _ _ _
  rw[Std.Legacy.Range.forIn_eq_forIn_range'];refine Gd _ (λrest b s'=>s'=⟨hp,g,d,tk,os⟩/\∃i,i<=j/\rest=Lk i (items.size-i)) _ ?turn ?fin _ _ ⟨rfl,0,Bh _,by simp[Std.Legacy.Range.size]⟩
  case turn=>
   rintro i0 rest b s' ⟨rfl,i,bD,hr⟩
   have ak:i<items.size:=by omega
   have e0:items.size-i=(items.size-(i+1))+1:=by omega
   rw[e0,List.range'_succ]at hr;cases hr;rw[D0 ak];refine A0 (he _ (Array.getElem_mem ak) prog w _ _ ?_);by_cases cQ:i0=j
   .subst cQ;rw[aG]
    wp_walk
    exact⟨_,rfl,h⟩
   .rw[cp i0 ak ⋯]
    wp_walk
    exact⟨rfl,i0+1,⋯,rfl⟩
  case fin=>
   rintro ⟨b1,b2⟩ s' ⟨rfl,i,bD,hr⟩
   have:=lE Kb hr
   simp at this;omega
section
variable{X:Cx}{a b:Expr}{fa fb:ED}{p pos cX:Hi}
def s0:Int->List Int->Int
 |n,[]=>n
 |n,m::r=>s0 (Mw n m) r
theorem JZ:∀(ns:List Int) (n:Int),s0 n ns∈n::ns/\∀x∈n::ns,s0 n ns<=x
 | [],n=>by simp[s0]
 |m::r,n=>by
  obtain⟨h1,h2⟩:=JZ r (Mw n m);show s0 (Mw n m) r∈_/\∀x∈_,s0 (Mw n m) r<=x;have hm:=h2 (Mw n m) A6;constructor
  .rcases Ac.mp h1 with z|z
   .rw[z];rcases Ku n m with q|q
    .rw[Ef q];exact A6
    .rw[Ei q];exact A7 _ A6
   .exact A7 _ (A7 _ z)
  .intro x hx;rcases Ac.mp hx with z|z
   .omega
   .rcases Ac.mp z with z|z
    .omega
    .exact h2 x (A7 _ z)
def xP(f:EL):ED:=λY=>match f Y with|some ds=>(match lJ ds with|some (n::ns)=>some (.int (s0 n ns))|_=>none)|none=>none
def Tt(hc:X.calm=true)(hm:X.mg "min" = none)(h:BI X a f)(hg:Gl X "min":=by rfl)(he:J0 a=true:=by rfl):ZE X (.Call (.Name "min" p) [a] [] pos) (xP f):=
 ⟨have h:=h.h;
 j6 (tW (X1 hc) hg hm ‹_› (J7 h Y5 (w9 he)) ∅ ∅ (w9 he) (K7 rfl)) λU H Q h_=>by
  refine f7 h_ λY d B H0 V0 Z e r q=>?_;unfold xP at e;split at e
  .rename_i ds aF;split at e
   .rename_i n ns hn;cases e;refine⟨Y,ds,B,H0,V0,Z,aF,r,λl xs H' s hq rr=>⟨l,n,ns,rfl,?_,λm hm hb=>?_⟩⟩
    .rw[rF hn,Y9]at rr;rw[<-rr];exact hq
    .obtain⟨h1,h2⟩:=JZ ns n;have e1:=hb _ h1;have e2:=h2 _ hm;rw[y8 Ay]at e1
     have:m=s0 n ns:=by omega
     rw[this];exact q _ H' s (v7.mpr rfl)
   .cases e
  .cases e⟩
def vR(f:EL):EB:=λY=>match f Y with|some ds=>some (!ds.isEmpty)|none=>none
def Tw(h:BI X a f)(he:∀aK,isTrue a X.env aK=(do let v <-aK;Lf a.pos;Hs [v] (Oj v)):=by intro _;rfl):ZT X a (vR f):=
 ⟨have h:=h.h;
 qB (϶ h he) λU H Q h_=>by
  refine f7 h_ λY d B H0 V0 Z e r q=>?_;unfold vR at e;split at e
  .rename_i ds aF;cases e;refine⟨Y,ds,B,H0,V0,Z,aF,r,λl xs H' s hq rr=>?_⟩;refine⟨!xs.isEmpty,.inl ⟨xs,hq,rfl⟩,?_⟩;have hl:=rr.length
   have:ds.isEmpty=xs.isEmpty:=by cases ds<;>cases xs<;>first|rfl|cases hl
   rw[<-this];exact q H' s
  .cases e⟩
end
end L3
namespace L3
open PySem PySem.Spec PyProof.Rows L2 PySem.SeqAt PySem.W
end L3
namespace L3
open PySem PySem.Spec PyProof.Rows L2 PySem.SeqAt
def MN(K:A5)(w:Ce)(a:As)(kvs:List (Ba×Ba)):Prop:=∃es n,K.lookup a=some ⟨.type "dict",none,.dict es n,#[]⟩/\PySem.W.KeysLit w.params es.toList/\∀kv∈kvs,∃t,Jd K a kv.1=some (some (.str kv.2 t))
def LQ(kvs:List (Ba×Ba))(f:ED):ED:=λY=>match f Y with
 |some (.str x)=>(match kvs.lookup x with|some y=>some (.str y)|none=>none)
 |_=>none
theorem Qm{x y:Ba}:∀{kvs:List (Ba×Ba)},kvs.lookup x=some y->(x,y)∈kvs
 | [],h=>by cases h
 | (a,b)::r,h=>by
  rw[Bq]at h;split at h
  .rename_i e;cases h;rw[eq_of_beq e];exact A6
  .exact A7 _ (Qm h)
section
variable{X:Cx}{i:Expr}{p pos:Hi}{f:ED}
def Ο(hm:X.mg x=some (.ref a))(ht:MN X.K X.w a kvs)(hi:ZE X i f)(hg:Gl X x:=by rfl)(hd:(x==("__debug__":Ba))=false:=by decide)(hs:BB i:=by exact λ_ _=>rfl):ZE X (.Subscript (.Name x p) i pos) (LQ kvs f):=
 ⟨have hi:=hi.h;
 λaa s U H Q I h_=>by
 refine f7 h_ λY d B H0 V0 Z e r q=>?_;unfold LQ at e;split at e
 .rename_i k hk;split at e
  .rename_i y hy;cases e;obtain⟨es,n,hl,bQ,hv⟩:=ht;obtain⟨t,ht⟩:=hv _ (Qm hy);have h0:tC (.ref a) U H (λx H1=>x=V.ref a/\H1=H):=⟨rfl,rfl⟩;refine RX PySem.F.slot_dict_getitem.lookup hs (jK (Ï (pos:=p) hg hm (v:=.ref a) rfl hd aa s U H _ I h0) λu s1 x' H1 I1 rx ⟨ex,eH⟩=>?_);subst ex eH
   obtain rfl:u=Co a:=rx
   refine jK (hi aa s1 U H1 (λv H'=>J4 H1 H'/\v=V.str k) I1 ⟨Y,_,B,H0,V0,Z,hk,r,λv H' sm rv=>⟨sm,mB.mp rv⟩⟩) λiv s2 y' H2 I2 ry ⟨sm,ey⟩=>?_;subst ey;obtain⟨tk,rfl⟩:=ry;have hm:=PySem.W.mapOf_K (prog:=X.prog) (w:=X.w) I2.kIn hl bQ;refine⟨hm.typeIs,wpAny_getItem_of (strKind_is X.prog X.w k tk) hm (PySem.W.find_K hl ht) ⟨.str y,H2,I2.tok _,⟨t,rfl⟩,q _ _ sm (mB.mpr rfl)⟩⟩
  .cases e
 .cases e⟩
end
end L3
namespace L3
open PySem PySem.Spec PyProof.Rows L2
section
variable{X:Cx}
def RO{i:Nat}{y:Ba}{py aZ:Hi}{cap:List (Option Nat)}(hc:X.calm=true)(hi:PI X ae ag wi)(hg:∀cl C fp s H,PG (Y6 X N scope cl C fp s H) ae g)(ht:∀cl C fp s H,sP (Y6 X N scope cl C fp s H) bc tt)(he:∀cl C fp s H,PE (Y6 X N scope cl C fp s H) ba te)(hk:scope.kind = .function)(ay:∀y∈scope.names,y.2 = .cell->scope.names.lookup y.1=some .cell)(aX:∀x∈scope.names,x.2 = .local->scope.names.lookup x.1=some .local)(bK:∀x∈scope.names,x.2 = .free->scope.names.lookup x.1=some .free)(bp:∀x∈scope.names,x.2 = .free->X.env.scope.names.lookup x.1=some .cell\/X.env.scope.names.lookup x.1=some .free)(bf:∀(i j:Nat),cap[i]?=some (some j)->∃x,N[i]?=some x/\X.N[j]?=some x/\scope.names.lookup x=some .free)(ab:cap.length=N.length)(hN:X.N.Nodup)(eu:X.N[i]?=some y)(hy:m9 X.env.scope y)(hf:X.fn y=true\/X.env.scope.names.lookup y=some .local)(ca:Er (.ListComp ba [⟨ae,ag,bc,0⟩] scope pos) (some (.Name y py)) aZ.line X.env=Ci true)(hs:∀x,Cu ag X.env x=Ci x:=by intro _;rfl):
  PS X (.Assign [.Name y py] (.ListComp ba [⟨ae,ag,bc,0⟩] scope pos) aZ) (AY (xZ cap wi g tt te) (sN i)):=by
 intro aa s U H D I h;rw[exec_Assign_Name_used _ _ _ _ ca];refine A0 (Gy (A0 ?_));show Ah _ X.A (do let _ <-comprehension (.ListComp ba [⟨ae,ag,bc,0⟩] scope pos) scope X.env _ (N7 []) false (Ec ag X.env) (some (Lw (.Name y py) X.env))) _ _ s;refine A0 (Cm (Ph (use:=some (Lw (.Name y py) X.env)) (Qf:=λ_ s'=>SP X aa D .next s') hc hi hg ht he hk ay aX bK bp bf ab hs I h λ{s3 s6 H3 H5 U5 cs fp l r} I3 I6 dR q=>?_) (λ_ s' hq=>x6 (x6 hq)) λ_ _ e=>e)
 obtain⟨m6,hn6,_⟩:=I6.loc
 have IX:a9 X aa U H5 s6:=by
  refine I3.call' (s':=s6) (ch:=fp) I6.os ?_ (λb u e=>I6.hok b u e) I6.bare (λb hb=>?_)
  .have u6:Un (oT X.stack) fp H3 H5 s3.heap s6.heap:=I6.base;exact u6
  .obtain⟨_,f1,_,f3,f5,f6⟩:=dR b hb;exact⟨f3,f1,f5,f6⟩
 have ltL:X.env.locals<s3.heap.objs.size:=by obtain⟨m3,hn3,_⟩:=I3.loc;obtain⟨o,_,_,ho,_⟩:=hn3;exact Aj ho
 have jl:∀x c,X.env.cells.lookup x=some c->c<s3.heap.objs.size:=λx c e=>by obtain⟨v,o,ho,_⟩:=I3.cell x c e;exact Aj ho
 show Ah _ X.A (Lw (.Name y py) X.env (.ref l)) _ _ s6;refine wpAny_assign_Name (PQ IX hN eu hy (v:=.ref l) rfl (λs7 I7 hsb7=>?_) hf);obtain⟨a7,sb7,ha7⟩:=hsb7
 have neA:s3.heap.objs.size≠a7:=by
  rcases ha7 with rfl|ha7
  .exact Cz (An ltL)
  .exact Cz (An (jl _ _ ha7))
 refine⟨m6,hn6.sameBut sb7 neA,λh' sb=>?_⟩
 have dZ:∀b u,H5 b=some u->b≠s3.heap.objs.size:=λb u e z=>by
  subst z
  have:=I6.free
  rw[show H5 s3.heap.objs.size=none from this]at e;cases e
 refine⟨_,H5,?_,q⟩;refine I7.call' (s':={ s7 with heap:=h' }) (ch:=[s3.heap.objs.size]) rfl ?_ (λb u e=>?_) I7.bare (λb hb=>?_)
 .have ex:∀b,b∉[s3.heap.objs.size]->∀o,s7.heap.get? b=some o->h'.get? b=some o:=λb hb o e=>(sb.2 b λz=>hb (by rw[z];exact Ag.mpr rfl)).trans e
  exact⟨λb o e n hb hx=>ex b hx o e,λb o e n hb hx=>⟨o.slots,ex b hx o e⟩,λb o e n hx=>n,λb o e hx=>⟨o,ex b hx o e⟩,λ_ _ e=>e,λ_ _ _ e=>e,λb ps e=>⟨#[],by simpa using e⟩⟩
 .refine(I7.hok b u e).stay (λc v bN q'=>(sb.2 c ?_).trans q') (λ_ q'=>q') (λ_ _ q'=>q') λ_ _ _ q'=>q';rcases bN with rfl|bN
  .exact dZ _ _ e
  .exact dZ _ _ bN
 .obtain rfl:=Ag.mp hb
  refine⟨.inr ?_,Cz (An ltL),λx c e=>An (jl x c e),λp hp=>?_⟩
  .exact I3.sz
  .exact An (Aj (I3.pin p hp).1)
def Ι{i:Nat}{y:Ba}{py aZ pos:Hi}(N:List Ba)(cap:List (Option Nat))(hc:X.calm=true)(hi:NL X ae ag fi)(hg:∀cl C fp s H,SG (Y6 X N scope cl C fp s H) ae h)(ht:∀cl C fp s H,sP (Y6 X N scope cl C fp s H) bc (tT X.K ft))(he:∀cl C fp s H,SE (Y6 X N scope cl C fp s H) ba fe)(hN:X.N.Nodup)(eu:X.N[i]?=some y)(hy:m9 X.env.scope y)(hf:X.fn y=true\/X.env.scope.names.lookup y=some .local)(ca:Er (.ListComp ba [⟨ae,ag,bc,0⟩] scope pos) (some (.Name y py)) aZ.line X.env=Ci true)(hok:rY scope X.env.scope N cap X.N=true)(hs:∀x,Cu ag X.env x=Ci x)(himp:∀E U H,tS X.K go E U H->tF X.K (Q5 cap fi h ft fe) U H (λv H1=>E.nx (U.set i (some v)) H1)):
  SS X (.Assign [.Name y py] (.ListComp ba [⟨ae,ag,bc,0⟩] scope pos) aZ) go:=by
 have c:=AQ hok
 exact mY (RO (N:=N) (cap:=cap) (wi:=NF X.K fi) (g:=tG X.K h) (tt:=tT X.K ft) (te:=tD X.K fe) hc hi hg ht he c.kind c.cell c.loc c.fre c.out c.sel c.len hN eu hy hf ca hs)
  λE U H z=>Sj (X:=X) c.inj U H _ (himp E U H z)
def t9{i:Nat}{y:Ba}{py aZ pos:Hi}(N:List Ba)(cap:List (Option Nat))(hc:X.calm=true)(hi:GE X ae ag fi)(hg:N.Nodup->∀cl C fp s H,ZG (Y6 X N scope cl C fp s H) ae h)(ht:∀cl C fp s H,ZP (Y6 X N scope cl C fp s H) bc ft)(he:∀cl C fp s H,ZE (Y6 X N scope cl C fp s H) ba fe)(hN:X.N.Nodup)(eu:X.N[i]?=some y:=by rfl)(hy:m9 X.env.scope y:=by first|exact E7 rfl|exact D3 rfl)(hf:X.fn y=true\/X.env.scope.names.lookup y=some .local:=by first|exact .inl rfl|exact .inr rfl)(ca:Er (.ListComp ba [⟨ae,ag,bc,0⟩] scope pos) (some (.Name y py)) aZ.line X.env=Ci true:=by rfl)(hok:rY scope X.env.scope N cap X.N=true:=by rfl)(hs:∀x,Cu ag X.env x=Ci x:=by intro _;rfl)(nd:N.Nodup:=by decide +kernel):ZS X (.Assign [.Name y py] (.ListComp ba [⟨ae,ag,bc,0⟩] scope pos) aZ) (i4 i (lG (Q5 cap fi h ft fe))):=
 ⟨have hg:=hg nd;
 have hi:=hi.h;
 have hg:=λcl C fp s H=>(hg cl C fp s H).h;
 have ht:=λcl C fp s H=>(ht cl C fp s H).h;
 have he:=λcl C fp s H=>(he cl C fp s H).h;
 Ι N cap hc hi hg ht he hN eu hy hf ca hok hs λE U H h_=>by
  refine f7 h_ λY o B H0 V0 Z e r q=>?_;unfold i4 at e;split at e
  .rename_i d ed;cases e;unfold lG at ed;obtain⟨ds,he,rfl⟩:=B5.mp ed;refine⟨Y,ds,B,H0,V0,Z,he,r,λa xs H' s hn ha hr=>q _ H' Z ((r.mono s).set (K6.mpr ⟨a,xs,rfl,i7.of ?_,hr.mono (qD λb hb=>A7 _ hb)⟩))⟩;rw[K8 (r.newer hn)];exact ha
  .cases e⟩
end
end L3
namespace HT
open PySem PyProof.Rows
section
variable{prog:Bs}{w:Ce}{A:Bz}{E:VP}{s:Ae}
def getItem_tuple_all{t sl:As}{items:Array A9}{vl vu:A9}{lo hi:Option Int}{Q:VP}(ht:Jo s.heap t items)(hs:s.heap.IsSliceOf sl vl vu .none)(pl:L1 vl lo)(pu:L1 vu hi)(hw:sIx items.size 0 lo=0/\sIx items.size items.size hi=items.size)(h:Q (.ref t) s)(hsz:items.size<=sizeLine):Ah (Aw prog w) A (Ja (.ref t) (.ref sl)) Q E s:=by
 have hj:sIx items.size items.size hi<=items.size:=UI _ _ (Ad _) hi;obtain⟨os,cV,dv,cS⟩:=id hs;have iA:s.TypeIs (.ref sl) "slice":=⟨os,cV,dv⟩;unfold Ja
 try with_reducible refine Ca ?_
 first|refine A0 (x6 ?_)|skip
 refine A0 (Lh ht.typeIs ∅ ?_)
 refine A0 (Cy (name:=Bl "__getitem__") ht.typeIs C3
  (Ct C3 ht.typeIs Kq ?_ (L4 _ _)))
 show Ah _ _ (Hl (.ref t) >>= _) _ _ s;refine A0 (Ni ht ?_);refine A0 (F9 iA ?_);rw[y6 ∅];refine A0 (OT hs pl pu ?_)
 have hyes:(((sIx items.size 0 lo:Nat):Int)==0&&(1:Int)==1&&(sIx items.size items.size hi-sIx items.size 0 lo)==items.size)=true:=by rw[hw.1,hw.2];simp
 show Ah _ _ (if (((sIx items.size 0 lo:Nat):Int)==0&&(1:Int)==1&&(sIx items.size items.size hi-sIx items.size 0 lo)==items.size)=true then _ else _) _ _ s;rw[y6 hyes];refine A0 ?_;unfold C1.Tuple.tupleIsExact;refine A0 (F9 ht.typeIs (x6 ?_));rw[y6 ∅]
 first
  |exact A0 (Fl (x6 ⟨_,rfl,x6 h⟩))
  |exact Fl (x6 ⟨_,rfl,x6 h⟩)
  |exact A0 (Fl (A0 (x6 (x6 ⟨_,rfl,x6 h⟩))))
end
end HT
namespace L3
open PySem PySem.Spec PyProof.Rows L2 PySem.SeqAt
section
variable{X:Cx}{a:Expr}{fa:ED}{pos:Hi}
def v3I(K:A5):V->Option Int->Option Int->Hp->VK->Prop:=λx lo hi H Q=>∃a xs,x = .ref a/\i8 K H a xs /\
 (HT.sIx xs.length 0 lo=0/\HT.sIx xs.length xs.length hi=xs.length)/\Q (.ref a) H
def ŧ:uM X (v3I X.K):=by
 intro aa s U H x v vl vu lo hi sl Q I rx hs pl pu h;obtain⟨a,xs,rfl,hx,hw,q⟩:=h;cases rx;obtain⟨its,r,ht,hz⟩:=I.tuple hx
 have ab:its.toArray.size=xs.length:=by rw[Af];exact r.length.symm
 refine⟨"tuple",_,C3.lookup,ht.typeIs,?_⟩;exact HT.getItem_tuple_all ht hs pl pu (by rw[ab];exact hw) ⟨.ref a,H,I,rfl,q⟩ (by rw[ab];exact hz)
def vW(f:ED)(fl fh:J5->Option (Option Int)):ED:=λY=>match f Y with
 |some (.tup ds)=>(match fl Y with|some lo=>(match fh Y with|some hi=>if HT.sIx ds.length 0 lo=0/\HT.sIx ds.length ds.length hi=ds.length then some (.tup ds) else none|none=>none)|none=>none)
 |_=>none
def Ť{lo hi:Option Expr}{p2:Hi}{fl fh:J5->Option (Option Int)}(he:SE X a fa)(hl:SO X lo fl)(hh:SO X hi fh):SE X (.Subscript a (.Slice lo hi none p2) pos) (vW fa fl fh):=
 j6 (S7 ŧ he hl hh) λU H Q h_=>by
  refine f7 h_ λY d B H0 V0 Z e r q=>?_;unfold vW at e;split at e
  .rename_i ds ex;split at e
   .rename_i l el;split at e
    .rename_i h eh;split at e
     .rename_i hw;cases e;refine⟨Y,_,B,H0,V0,Z,ex,r,λu H1 s1 r1=>⟨Y,l,B,H0,V0,Z,el,r.mono s1,λH2 s2=>⟨Y,h,B,H0,V0,Z,eh,(r.mono s1).mono s2,λH3 s3=>?_⟩⟩⟩;have rx:=r1.mono (x9 (s2.trans s3));obtain⟨p,xs,rfl,h1,h2⟩:=j5.mp rx;exact⟨p,xs,rfl,j9 v4 h1,by rw[<-h2.length];exact hw,q _ H3 (s1.trans (s2.trans s3)) rx⟩
     .cases e
    .cases e
   .cases e
  .cases e
def R9{lo hi:Option Expr}{p2:Hi}{fl fh:J5->Option (Option Int)}(he:ZE X a fa)(hl:ZO X lo fl)(hh:ZO X hi fh):ZE X (.Subscript a (.Slice lo hi none p2) pos) (nN (l5 fa fl fh) (vW fa fl fh)):=
 ⟨have he:=he.h;
 have hl:=hl.h;
 have hh:=hh.h;
 ţ (TY he hl hh) (Ť he hl hh)⟩
end
end L3
namespace L3
open PySem PySem.Spec PyProof.Rows L2
def qI(K:A5)(cd:A9)(x:Ba):Bool:=match cd with
 | .ref c=>(match K.lookup c with
  |some ⟨.type "code",_,.fields vs,_⟩=>(match (vs[11]?:Option A9) with|some (.ref P)=>Jv K c P&&(K.lookup P).isNone|_=>false)&&(match (vs[1]?:Option A9) with|some (.str q _)=>q==x&&SC.contains q|_=>false)
  |_=>false)
 |_=>false
def ā{K:A5}{cd:A9}{x:Ba}(h:qI K cd x=true):∃c o vs P t,cd = .ref c/\K.lookup c=some o/\o.cls = .type "code"/\o.data = .fields vs/\vs[11]?=some (.ref P)/\vs[1]?=some (.str x t) /\
  Jv K c P=true/\K.lookup P=none/\AI vs=true:=by
 unfold qI at h;split at h
 .rename_i c;split at h
  .rename_i od vs dB hk;rw[B8]at h;obtain⟨h1,h2⟩:=h;split at h1
   .rename_i P hP;rw[B8]at h1;split at h2
    .rename_i q t hq;rw[B8]at h2
     have e:q=x:=by simpa using h2.1
     subst e;exact⟨c,_,vs,P,t,rfl,hk,rfl,rfl,hP,hq,h1.1,by simpa using h1.2,by unfold AI;rw[hq];exact h2.2⟩
    .cases h2
   .cases h1
  .cases h
 .cases h
structure pF(K:A5)(mg:Ba->Option A9):Prop where
 ex:True
theorem Zs{c v:A9}(l:List A9)(h:TriplesOk l)(e:Kx p (l++[rawInt a,rawInt b,c])=some v):Kx p l=some v\/v=c:=by
 fun_induction TriplesOk l with
 |case1=>
  simp only[Kj,Kx,rawInt]at e;split at e
  .exact .inr (Bi e).symm
  .cases e
 |case2 i t j u y r ih=>
  simp only[List.cons_append,Kx]at e ⊢;split at e
  .rename_i hc;rw[y6 hc];exact .inl e
  .rename_i hc;rw[y8 hc];exact ih h e
 |case3 l h1 h2=>exact h.elim
abbrev zV(qual:Ba)(params:N6)(body:Expr)(scope:Scope)(cl:List (Ba×As))(az pm:A9)(c:As)(ct:A9):Ka:=PySem.W.kdv_obj "<lambda>" qual params (.expr body) scope cl .none az pm c ct
section
variable{X:Cx}{aa:i6}{U:St}{H:Hp}{s:Ae}
def a9.pin1{f:As}{o:Ka}(I:a9 X aa U H s)(ho:s.heap.get? f=some o)(hn:H f=none)(hl:f≠X.env.locals)(hf:f∉X.fs)(hd:∀v,o.data≠.cell v):a9 X ((f,o)::aa) U H s:=
 I.pins_of λp hp=>by
  rcases Ac.mp hp with z|z
  .subst z;exact⟨ho,hn,hl,hf,hd⟩
  .exact I.pin p (Ab _ z)
theorem Uq{A:Bz}{E:VP}{params:N6}{body:Expr}{scope:Scope}{pos:Hi}{cl:List (Ba×As)}{x:Ba}{Q:VP}(I:a9 X aa U H s)(tb:TB X.K H)(bm:pF X.K X.mg)(hl:qI X.K X.env.code x=true)(hq:X.env.qual=x++".<locals>.")(ar:Os scope X.env=Ci cl)(bT:Mp params X.env=([],[]))(h:∀f c oc vs t az pm ct s' H',J4 H H'->a9 X ((f,zV (X.env.qual++"<lambda>") params body scope cl az pm c ct)::aa) U H' s'->(∃u,H' c=some (.frz oc u))->oc.data = .fields vs->vs[1]?=some (.str (X.env.qual++"<lambda>") t)->Q (.ref f) s'):
  Ah (Aw X.prog X.w) A (Ec (.Lambda params body scope pos) X.env) Q E s:=by
 refine PySem.W.kla_eval bT ?_;rw[makeFunction_eq];simp only[L0,List.filterMap_nil,List.isEmpty_nil,if_true,pure_bind];obtain⟨c,o,vs,P,t0,hc,k1,k2,k3,k4,k5,k6,k7,k8⟩:=ā hl;obtain⟨q,t,e1,hP⟩:=tb c o vs P k1 k2 k3 k4 k7 k8;rw[k5]at e1;cases e1;obtain⟨qs,hp,ht,iy⟩:=I.hok P _ hP;have CH:PySem.W.CodeHd s.heap c P:=PySem.W.codeHd_of_K I.kIn k6;have hg:s.heap.Ns D9 X.mg:=I.ok.mod.glob.keeps I.bk
 have hgP:D9≠P:=λz=>by
  obtain⟨og,es,ep,e,_⟩:=I.ok.mod.glob
  have:=(I.bs _ _ e).2
  rw[z,hP]at this;cases this
 obtain⟨bm,ob,b1,b6,b2,b3,b4,b5⟩:=I.ok.mod.bm
 have b7:bm≠D9:=λz=>by obtain⟨og,es,ep,e,hd,_⟩:=I.ok.mod.glob;rw[<-z,b2]at e;cases e;rw[b5]at hd;cases hd
 have hB:s.heap.BuiltinsAt X.mg P:=⟨bm,ob,b1,b6,b7,(λz=>by
  have:=(I.bs _ _ b2).2
  rw[z,hP]at this
  cases this),I.bk _ _ b2,b3,b4,b5⟩
 have tq:RY #[N2 x 0]=X.env.qual++"<lambda>":=by rw[hq];rfl
 cases hca:Kx pos qs.toList with
 |none=>
  refine PySem.W.kdv_makeTail ar I.ok.glob hg hc CH hp ht hca hgP hB λc' ct az h' tk hx gA ak hrec fO=>?_;obtain⟨c2,oc,ws,t2,e2,gf,hd,hv⟩:=hrec;cases e2;have hcn:H c'=none:=I.hok.fresh gA
  have cne:∀b u,H b=some u->b≠c':=λb u e z=>by rw[z,hcn]at e;cases e
  have sm:J4 H (upd H c' (.frz oc (.own P))):=u9 hcn;have hsz:s.heap.objs.size<=h'.objs.size:=C7 gA (Dc ak);generalize dA:PySem.W.kdv_obj "<lambda>" (X.env.qual++"<lambda>") params (.expr body) scope cl .none az ((X.mg "__name__").getD .none) c' ct=fo
  have hok:lF X.prog X.w (upd H c' (.frz oc (.own P))) (h'.push fo):=λb u e=>by
   by_cases hb:b=c'
   .subst hb;rw[w6]at e;cases e;exact⟨A8 _ gf,oc,A8 _ gf⟩
   .rw[j3 hb]at e;by_cases hbP:b=P
    .subst hbP;rw[hP]at e;cases e;refine⟨qs++#[rawInt pos.line,rawInt pos.col,.ref c'],A8 _ fO,?_,λp v cG=>?_⟩
     .have:=TriplesOk_snoc pos.line pos.col (.ref c') qs.toList ht
      simpa using this
     .have hv2:Kx p (qs.toList++[rawInt pos.line,rawInt pos.col,.ref c'])=some v:=by simpa using cG
      rcases Zs qs.toList ht hv2 with z|z
      .obtain⟨c3,oc3,vs3,t3,z1,z2,z3,z4⟩:=iy p v z;exact⟨c3,oc3,vs3,t3,z1,sm _ _ z2,z3,z4⟩
      .exact⟨c',oc,ws,t2,z,w6,hd,by rw[tq];exact hv⟩
    .refine(I.hok b u e).stay (λd v bS r=>A8 _ (hx d v ?_ r)) (λd r=>sm _ _ r) (λd ys r=>sm _ _ r) λd cH ys r=>sm _ _ r;rcases bS with z|z
     .rw[z];exact hbP
     .intro z2;rw[z2,hP]at z;cases z
  have un:Un X.fs [] H (upd H c' (.frz oc (.own P))) s.heap (h'.push fo):=by
   have kp:∀b cH,s.heap.get? b=some cH->H b=none->(h'.push fo).get? b=some cH:=λb cH e n=>A8 _ (hx b cH (λz=>by rw[z,hP]at n;cases n) e)
   refine⟨λb cH e n _ _=>kp b cH e n,λb cH e n _ _=>⟨cH.slots,kp b cH e n⟩,λb cH e n _=>?_,λb cH e _=>?_,λb ys e=>sm _ _ e,λb cH u e=>sm _ _ e,λb ps e=>⟨#[],by rw[sm _ _ e];simp⟩⟩
   .rw[j3]
    .exact n
    .intro z
     have:=Aj e
     rw[z]at this;exact u3 (B3 this gA) (Di _)
   .by_cases hb:b=P
    .rw[hb];exact⟨_,A8 _ fO⟩
    .exact⟨cH,A8 _ (hx b cH hb e)⟩
  have I2:=I.un (h':=h'.push fo) (t':=tk) un hok;refine h h'.objs.size c' oc ws t2 az ((X.mg "__name__").getD .none) ct _ _ sm ?_ ⟨_,w6⟩ hd hv;have hf:(h'.push fo).get? h'.objs.size=some fo:=Ak _ (by rw[<-dA];rfl)
  rw[<-dA]at hf I2 ⊢;refine a9.pin1 I2 hf ?_ ?_ ?_ ?_
  .rw[j3 (Cw ak)];exact I.hok.fresh hsz
  .exact Cw (B3 I.lt hsz)
  .exact I.nofs hsz
  .intro v z;cases z
 |some v=>
  obtain⟨c',oc,ws,t2,rfl,z2,z3,z4⟩:=iy pos v hca;refine PySem.W.kdv_makeTailHit ar I.ok.glob hg hc CH hp ht hca hB λct az h' tk hx hsz=>?_;rw[tq]at z4;have I2:=I.kept (h':=h'.push (zV (X.env.qual++"<lambda>") params body scope cl az ((X.mg "__name__").getD .none) c' ct)) (t':=tk) λb u e=>A8 _ (hx b u e);refine h h'.objs.size c' oc ws t2 az ((X.mg "__name__").getD .none) ct _ H (J4.refl H) ?_ ⟨_,z2⟩ z3 z4
  refine a9.pin1 I2 (Ak _ rfl) (I.hok.fresh hsz) (Cw (B3 I.lt hsz)) (I.nofs hsz) ?_;intro v z;cases z
end
abbrev pK(X:Cx)(A:Bz)(N:List Ba)(qual:Ba)(scope:Scope)(cl:List (Ba×As))(f:As)(cd:A9)(s:Ae)(H:Hp):Cx where
 prog:=X.prog
 w:=X.w
 K:=X.K
 mg:=X.mg
 base:=X.base
 A:=A.deeper (Mq qual scope s.heap.objs.size f cd cl)
 N:=N
 s₀:=s
 H₀:=H
 env:=Mq qual scope s.heap.objs.size f cd cl
 outer:=X.stack
 stack:=Mq qual scope s.heap.objs.size f cd cl::X.stack
 ex:=[]
 fn:=λx=>match scope.names.lookup x with|some .local=>true|_=>false
 calm:=true
 pn:=[]
 xe:=λ_ _=>False
section
variable{X:Cx}{aa:i6}{U:St}{H:Hp}{s:Ae}{scope:Scope}{cl:List (Ba×As)}{N:List Ba}{cap:List (Option Nat)}{A:Bz}{qual p:Ba}{f:As}{cd u:A9}{v:V}
def ž{h1:Ch}{tk:Nat}(I:a9 X aa U H s)(hAf:A.frames=some X.stack)(hAh:A.handled=none)(hk:scope.kind = .function)(ay:∀y∈scope.names,y.2≠.cell)(ar:∀x c,cl.lookup x=some c->X.env.cells.lookup x=some c/\(x,C2)∈scope.names)(fB:∀x,(x,C2)∈scope.names->∃c,cl.lookup x=some c)(bK:∀x∈scope.names,x.2 = .free->scope.names.lookup x.1=some .free)(bf:∀(i j:Nat),cap[i]?=some (some j)->∃x,N[i]?=some x/\X.N[j]?=some x/\scope.names.lookup x=some .free/\(X.env.scope.names.lookup x=some .cell\/X.env.scope.names.lookup x=some .free))(ab:cap.length=N.length)(h0:cap[0]?=some none)(hp:N[0]?=some p)(au:scope.names.lookup p=some .local)(rv:f9 v u)(bP:h1.Ns s.heap.objs.size (λy=>([(p,u)]:List (Ba×A9)).reverse.lookup y))(keep:∀b o,s.heap.get? b=some o->h1.get? b=some o):
  a9 (pK X A N qual scope cl f cd s H) [] ((mE cap U).set 0 (some v)) H { s with heap:=h1,toks:=tk }:=by
 have e0:=I.env0;have eW:∀b:As,b∉(pK X A N qual scope cl f cd s H).ex:=λb z=>u3 (show b∈([]:List As) from z) (by simp)
 refine⟨⟨e0.mod,hk,rfl,rfl,Ad _,λx y c e1 e2=>I.ok.inj x y c (ar x c e1).1 (ar y c e2).1,λx hx=>?_,λx c hx e=>?_,λ_=>hAh,Bz.frames_deeper hAf,.inr ⟨rfl,rfl⟩,λb z=>u3 z (eW b),e0.bs,e0.bsz,λb _ _=>eW b,λb z=>u3 z (eW b),e0.funs,e0.frf⟩,
  rfl,e0.bare,Un.kept keep,⟨_,bP,λi y w e1 e2 e3=>?_⟩,λx c e=>?_,e0.hok.fresh (Ad _),λx c e=>I.freeC x c (ar x c e).1,λq hq=>u3 (show q∈([]:i6) from hq) (by simp),e0.hok.kept keep,?_⟩
 .have hx:scope.names.lookup x=some .cell\/scope.names.lookup x=some .free:=hx;rcases hx with z|z
  .exact u3 rfl (ay _ (Cc z))
  .exact fB x (Cc z)
 .have aH:(match scope.names.lookup x with|some .local=>true|_=>false)=true:=hx
  have:=bK _ (ar x c e).2 rfl
  rw[this]at aH;cases aH
 .cases i with
  |zero=>
   have e1':N[0]?=some y:=e1;rw[hp]at e1';cases e1'
   have hl0:0<(mE cap U).length:=by unfold mE;rw[A3];exact(B0.mp h0).1
   rw[Ck hl0]at e2;cases e2;refine⟨u,rv,.inl ⟨au,?_⟩⟩;simp[Bq]
  |succ i=>
   rw[Bb ⋯]at e2
   have hc:∃j,cap[i+1]?=some (some j)/\U[j]?=some (some w):=by
    unfold mE at e2;rw[Ao]at e2
    cases fZ:cap[i+1]? with
    |none=>rw[fZ]at e2;cases e2
    |some o=>
     rw[fZ]at e2
     cases o with
     |none=>cases e2
     |some j=>
      refine⟨j,rfl,?_⟩;have cq:(U[j]?).bind id=some w:=Bi e2
      cases hs:U[j]? with
      |none=>rw[hs]at cq;cases cq
      |some q=>
       rw[hs]at cq
       have:q=some w:=cq
       rw[this]
   obtain⟨j,hj,hv⟩:=hc;obtain⟨x,n1,n2,n3,n4⟩:=bf (i+1) j hj
   have exy:x=y:=by
    have:N[i+1]?=some y:=e1
    rw[n1]at this;exact Bi this
   subst exy;obtain⟨mm,hm,hl⟩:=I.loc;obtain⟨u',r,cm⟩:=hl j x w n2 hv (.inr n4);refine⟨u',r,.inr ⟨.inr n3,?_⟩⟩;rcases cm with⟨k,_⟩|⟨k,c,e,z⟩
   .have k':X.env.scope.names.lookup x=some .local:=k;rw[k']at n4;rcases n4 with q|q<;>cases q
   .obtain⟨c',bN⟩:=fB x (Cc n3)
    have:=(ar x c' bN).1
    rw[e]at this;cases this;obtain⟨o,ho,hd⟩:=z;exact⟨c,bN,o,keep _ _ ho,hd⟩
 .obtain⟨v',o,ho,hd⟩:=I.cell x c (ar x c e).1;exact⟨v',o,keep _ _ ho,hd⟩
 .rw[D1];unfold mE;rw[A3];exact ab
def SD(I:a9 X aa U H s)(hAf:A.frames=some X.stack)(hr:d8 0 A)(hf:s.heap.get? f=some (zV qual params body scope cl az pm c ct))(hc:∃u,H c=some (.frz oc u))(hd:oc.data = .fields vs)(hv:vs[1]?=some (.str qual t))(hk:scope.kind = .function)(ay:∀y∈scope.names,y.2≠.cell)(dz:scope.isCoroutine=false)(cb:scope.isGenerator=false)(ar:∀x c,cl.lookup x=some c->X.env.cells.lookup x=some c/\(x,C2)∈scope.names)(fB:∀x,(x,C2)∈scope.names->∃c,cl.lookup x=some c)(bK:∀x∈scope.names,x.2 = .free->scope.names.lookup x.1=some .free)(bf:∀(i j:Nat),cap[i]?=some (some j)->∃x,N[i]?=some x/\X.N[j]?=some x/\scope.names.lookup x=some .free/\(X.env.scope.names.lookup x=some .cell\/X.env.scope.names.lookup x=some .free))(ab:cap.length=N.length)(h0:cap[0]?=some none)(hp:N[0]?=some p)(au:scope.names.lookup p=some .local)(rv:f9 v u)(hb:Gu (Je "<lambda>" qual params (.expr body) scope cl .none az pm (.ref c) ct) ⟨[u],[]⟩=Ci [(p,u)])(he:PE (pK X A N qual scope cl f (.ref c) s H) body te)(h:te ((mE cap U).set 0 (some v)) H Q):
  Ah (Aw X.prog X.w) A (call (.ref f) [u]) (EP X aa U Q) E s:=by
 obtain⟨uu,hc⟩:=hc;have gf:s.heap.get? c=some oc:=(I.hok c _ hc).1;refine Ol (PySem.W.kla_callFunE hr.depth hf rfl dz cb rfl ⟨c,oc,vs,t,rfl,gf,hd,hv⟩ ?_);rw[hb];refine x6 (wpAny_newFunctionEnv ay (λy hy=>?_) (λh₁ bP hsb=>⟨I.nolimit.fresh _ hsb,?_⟩) hk)
 .rw[Ag.mp hy];exact au
 have keep:∀b o,s.heap.get? b=some o->h₁.get? b=some o:=λb o e=>hsb.extBut b o (An (Aj e)) (A8 _ e);show Eu _ _ (.expr body (Mq qual scope s.heap.objs.size f (.ref c) cl)) _ _
 have I2:a9 (pK X A N qual scope cl f (.ref c) s H) [] ((mE cap U).set 0 (some v)) H { s with heap:=h₁,toks:=s.toks+([(p,u)]:List (Ba×A9)).length }:=ž I hAf hr.hd hk ay ar fB bK bf ab h0 hp au rv bP keep
 refine PySem.W.kla_codeExpr (Cm (he [] _ _ H Q I2 h) (λx s' hs=>?_) λ_ _ z=>z.elim);obtain⟨w,H',J,r,q⟩:=hs;exact I.after ⟨w,H',J.os,J.bare,J.base,J.hok,r,q⟩
end
end L3
namespace L3
open PySem PySem.Spec PyProof.Rows L2 PySem.SeqAt PySem.W
section
variable{X:Cx}{aa:i6}{U:St}{H:Hp}{s:Ae}
def a9.repin{b:As}{o o':Ka}{t':Nat}(J:a9 X ((b,o)::aa) U H s)(hk:Dd b s.heap h')(ho:h'.get? b=some o')(h0:X.s₀.heap.objs.size<=b)(hc:∀x c,X.env.cells.lookup x=some c->c≠b)(hp:∀p∈X.pn++aa,p.1≠b)(hd:∀v,o'.data≠.cell v):a9 X ((b,o')::aa) U H { s with heap:=h',toks:=t' }:=by obtain⟨_,p2,p3,p4,_⟩:=J.pin (b,o) (Ab _ A6);have J1:a9 X aa U H s:=J.pins_of λp z=>J.pin p (Ab _ (A7 _ z));exact a9.pin1 (J1.turned (h':=h') (t':=t') (λc u ne e=>(hk.2 c ne).trans e) p2 p3 (.inr h0) hc hp) ho p2 p3 p4 hd
def a9.tail{p:As×Ka}(J:a9 X (p::aa) U H s):a9 X aa U H s:=J.pins_of λq z=>J.pin q (Ab _ (A7 _ z))
def a9.told{a b:As}{oa ob:Ka}{h':Ch}{t':Nat}(J:a9 X ((b,ob)::(a,oa)::aa) U H s)(hk:∀c u,c≠a->c≠b->s.heap.get? c=some u->h'.get? c=some u)(hb:∃u,h'.get? b=some u)(ha:kX X.prog X.w (upd H a (.lst ys)) h' a (.lst ys))(h0:X.s₀.heap.objs.size<=a)(h1:X.s₀.heap.objs.size<=b)(hc:∀x c,X.env.cells.lookup x=some c->c≠a/\c≠b)(hp:∀p∈X.pn++aa,p.1≠a/\p.1≠b):a9 X aa U (upd H a (.lst ys)) { s with heap:=h',toks:=t' }:=by
 obtain⟨q1,q2,q3,q4,_⟩:=J.pin (b,ob) (Ab _ A6);obtain⟨p1,p2,p3,p4,_⟩:=J.pin (a,oa) (Ab _ (A7 _ A6));have sm:J4 H (upd H a (.lst ys)):=u9 p2;have J1:a9 X aa U H s:=a9.tail (a9.tail J);have nt:∀c u,H c=some u->c≠a/\c≠b:=λc u e=>⟨(λz=>by rw[z,p2]at e;cases e),(λz=>by rw[z,q2]at e;cases e)⟩
 refine J1.step (g':=s.gens) (d':=s.drawn) (ch:=[a,b]) (λc bN=>?_) (λc u _ _ hn e _=>hk c u (λz=>hn (by simp[z])) (λz=>hn (by simp[z])) e) (λc u _ _ hn e _=>⟨u.slots,hk c u (λz=>hn (by simp[z])) (λz=>hn (by simp[z])) e⟩)
  (λc u hn e n=>by rw[j3 (λz=>hn (by simp[z]))];exact n) (λc u hn e=>⟨u,hk c u (λz=>hn (by simp[z])) (λz=>hn (by simp[z])) e⟩) (λc xs e=>sm _ _ e) (λc o' u e=>sm _ _ e) (λc ps e=>⟨#[],by rw[sm _ _ e];simp⟩)
  (λm hm=>?_) (λc u e=>?_) J1.bare
 .rcases Ac.mp bN with z|z
  .subst z;exact⟨.inr h0,p3,λx c e=>(hc x c e).1,λp z=>(hp p z).1⟩
  .rw[Ag.mp z];exact⟨.inr h1,q3,λx c e=>(hc x c e).2,λp z=>(hp p z).2⟩
 .obtain⟨o',cD,dF,br,r'⟩:=hm;exact⟨o',cD,dF,hk _ _ (Cz p3) (Cz q3) br,r'⟩
 .by_cases aW:c=a
  .subst aW;rw[w6]at e;cases e;exact ha
  .rw[j3 aW]at e;refine(J1.hok c u e).stay (λd v hd r=>?_) (λd r=>sm _ _ r) (λd xs r=>sm _ _ r) λd o' u r=>sm _ _ r;rcases hd with z|z
   .rw[z]at r ⊢;exact hk _ _ (nt c u e).1 (nt c u e).2 r
   .exact hk _ _ (nt _ _ z).1 (nt _ _ z).2 r
variable{A:Bz}{E:VP}
def Tj{a:As}{vs:List A9}{P:Na->Ae->Prop}{kds:List D}(O:mT lt)(I:a9 X ((a,Bj "list" vs.toArray n)::aa) U H s)(fD:vs.length<64)(hkl:kds.length=vs.length)(rv:Y4 us vs)(h0:X.s₀.heap.objs.size<=a)(hc:∀x c,X.env.cells.lookup x=some c->c<a)(hp:∀p∈X.pn++aa,p.1<a)
  (turn:∀(i:Nat) (u:A9) (d:D),vs[i]?=some u->kds[i]?=some d->∀(more:i6) (H1:Hp) (s1:Ae),J4 H H1->a9 X (more++aa) U H1 s1 ->
   Ah (Aw X.prog X.w) A (call f [u]) (EP X (more++aa) U λk H2=>J4 H1 H2/\e9 X.K (K0 Z H2) d k) (λ_ _=>False) s1)
  (dE:∀(more:i6) (H1:Hp) (s1:Ae) (ks:List V) (kvs:List A9),J4 H H1->a9 X (more++aa) U H1 s1->Y4 ks kvs->J3 X.K (K0 Z H1) kds ks->2<=kvs.length->∀Q:Ot->Ae->Prop,Q κ s1->Ah (Aw X.prog X.w) A (Ou kvs.toArray) Q (λ_ _=>False) s1)
  (ak:∀(more:i6) (H1:Hp) (s1:Ae) (ks:List V) (kvs:List A9),J4 H H1->a9 X (more++aa) U H1 s1->Y4 ks kvs->J3 X.K (K0 Z H1) kds ks->∀i j,i<kvs.length->j<kvs.length->∀C:Bool->Ae->Prop,C (lt i j) s1 ->
   Ah (Aw X.prog X.w) A (keyLt' κ (kvs.getD i Bx) (kvs.getD j Bx)) C (λ_ _=>False) s1)
  (fin:∀(p:Array Nat) (H1:Hp) (s1:Ae),p.size=vs.length->p.Perm (Bw (Aa vs.length))->Up lt p vs.length->J4 H H1->H1 a=none->a9 X aa U (upd H1 a (.lst (p.toList.map λi=>us.getD i .non))) s1->P (.done (.ret .none)) s1):
  Ah (Aw X.prog X.w) A (ksk_tree a f false) P E s:=by
 have ho:s.heap.get? a=some (Bj "list" vs.toArray n):=(I.pin _ (Ab _ A6)).1;have ha:a<s.heap.objs.size:=Aj ho
 have hzz:vs.toArray.size<=sizeLine:=by rw[Af,Bk];omega
 obtain⟨e1,gy⟩:∃e1,(s.heap.update a (Cg λ_=>(#[]:Array A9))).get? a=some (Bj "list" #[] e1):=⟨_,get?_update_seq ho λ_=>#[]⟩
 have I1:a9 X ((a,Bj "list" #[] e1)::aa) U H { s with heap:=s.heap.update a (Cg λ_=>(#[]:Array A9)),toks:=s.toks }:=a9.repin I (Bp _ _ _) gy h0 (λx c e=>An (hc x c e)) (λp z=>An (hp p z)) (λv z=>by cases z)
 unfold ksk_tree;refine A0 (Kt ho rfl (A0 (Gz ho rfl ?_ hzz (Bh _))));refine A0 (Mz gy rfl (A0 (wpAny_newTuple (A0 (Ig (Ca ?_) (Bh _))) (by show vs.length<=_;rw[Bk];omega))))
 generalize fg:s.heap.update a (Cg λ_=>(#[]:Array A9))=h1 at I1 gy ⊢
 have fC:s.heap.objs.size=h1.objs.size:=by rw[<-fg,Hw]
 generalize hkS:(h1.push (Bj "tuple" vs.toArray 0)).objs.size=kS
 have kS1:kS=h1.objs.size+1:=by rw[<-hkS,Mo]
 have gk:a<kS:=by rw[kS1,<-fC];exact C5 ha
 have ckS:∀x c,X.env.cells.lookup x=some c->c≠kS:=λx c e=>An (Dv (hc x c e) gk)
 have I2:a9 X ((kS,Bj "list" #[] 0)::(a,Bj "list" #[] e1)::aa) U H { s with heap:=(h1.push (Bj "tuple" vs.toArray 0)).push (Bj "list" #[] 0),toks:=s.toks }:=by have J:=I1.kept (h':=(h1.push (Bj "tuple" vs.toArray 0)).push (Bj "list" #[] 0)) (t':=s.toks) λb u e=>A8 _ (A8 _ e);refine a9.pin1 J (by rw[<-hkS];exact Ak _ rfl) (I1.hok.fresh (by rw[kS1];exact E9 _)) (Cw (by rw[kS1];exact C5 I1.lt)) (I1.nofs (by rw[kS1];exact E9 _)) (λv z=>by cases z)
 have pkS:∀p∈X.pn++(a,Bj "list" #[] e1)::aa,p.1≠kS:=λp z=>by
  rcases Az.mp z with z|z
  .exact An (Dv (hp p (Bn _ z)) gk)
  .rcases Ac.mp z with z|z
   .rw[z];exact An gk
   .exact An (Dv (hp p (Ab _ z)) gk)
 have h0k:X.s₀.heap.objs.size<=kS:=C7 h0 (Dc gk);show Ah _ _ (ksk_rest a f false vs.toArray e1 (.ref kS)) P E { s with heap:=(h1.push (Bj "tuple" vs.toArray 0)).push (Bj "list" #[] 0) };unfold ksk_rest;refine A0 (Fl ?_);rw[List.forIn_toArray]
 refine A0 (ksk_fold (λi s'=>∃(H1:Hp) (kA:Array A9) (ks:List V) (e:Nat),a9 X ((kS,Bj "list" kA e)::(a,Bj "list" #[] e1)::aa) U H1 s'/\J4 H H1/\Y4 ks kA.toList/\J3 X.K (K0 Z H1) (kds.take i) ks) vs 0 _
  ⟨H,#[],[],0,I2,J4.refl H,.nil,by rw[L9];exact J3.nil⟩ ?step ?done)
 case step=>
  rintro j x s' hx ⟨H1,kA,ks,e,J,sm,rk,rr⟩;simp only[O2]at rr ⊢;have hj:j<vs.length:=(B0.mp hx).1;have eI:kds[j]?=some kds[j]:=A4 ⋯
  have hz:kA.size<=vs.length:=by have l1:=rk.length;have l2:=rr.length;have l3:kA.toList.length=kA.size:=Ar;rw[Eg]at l2;omega
  refine A0 (Ha (Cm (turn j x _ hx eI [(kS,Bj "list" kA e),(a,Bj "list" #[] e1)] H1 s' sm J) (λk bu he=>?_) λ_ _ z=>z.elim));obtain⟨kv,H2,J2,rkv,aR,rd⟩:=he;have J2':a9 X ((kS,Bj "list" kA e)::(a,Bj "list" #[] e1)::aa) U H2 bu:=J2;have hok:bu.heap.get? kS=some (Bj "list" kA e):=(J2'.pin _ (Ab _ A6)).1;obtain⟨e2,fW⟩:∃e2,(bu.heap.update kS (Cg (·.push k))).get? kS=some (Bj "list" (kA.push k) e2):=⟨_,get?_update_seq hok (·.push k)⟩
  try right
  refine A0 (Gz hok rfl ?_ (by rw[Bk];omega) (C7 (Nat.le_of_eq (Array.size_push ..)) (by rw[Bk];omega)))
  refine x6 ⟨rfl,H2,kA.push k,ks++[kv],e2,?_,sm.trans aR,?_,?_⟩
  .exact a9.repin (t':=bu.toks) J2' (Bp _ _ _) fW h0k ckS pkS (λv z=>by cases z)
  .rw[Ll];exact rk.append (.cons rkv .nil)
  .rw[List.take_add_one,eI];exact J3.append (rr.mono (x9 aR)) (J3.one rd)
 case done=>
  rintro s' ⟨H1,kA,ks,e,J,sm,rk,rr⟩
  have rr':J3 X.K (K0 Z H1) kds ks:=by rw[Jf ⋯]at rr;exact rr
  have lk:kA.size=vs.length:=by have l1:=rk.length;have l2:=rr'.length;have l3:kA.toList.length=kA.size:=Ar;omega
  have hok:s'.heap.get? kS=some (Bj "list" kA e):=(J.pin _ (Ab _ A6)).1;have hoa:s'.heap.get? a=some (Bj "list" #[] e1):=(J.pin _ (Ab _ (A7 _ A6))).1
  try right
  refine A0 (Kt hok rfl ?_);have eK:kA.toList.toArray=kA:=Array.toArray_toList
  have dO:∀(aQ:SortSt) (p:Array Nat),p.size=vs.length->p.Perm (Bw (Aa vs.length))->Up lt p vs.length->(arrOf aQ).map (·.2)=Bw (p.toList.map λi=>vs.getD i Bx)->Nz aQ=none ->
    Ah (Aw X.prog X.w) A (ksk_tail a false e1 (.ref kS) aQ) P E s':=λaQ p h1 h2 h3 h4 h5=>by
   have s1:=Bp s'.heap kS (Cg λ_=>(#[]:Array A9));have na1:(s'.heap.update kS (Cg λ_=>(#[]:Array A9))).get? a=some (Bj "list" #[] e1):=(s1.2 a (An gk)).trans hoa;unfold ksk_tail
   try right
   refine A0 (Gz hok rfl ?_ (by rw[lk,Bk];omega) (Bh _))
   refine A0 (Gn ?_);refine A0 (Mz na1 rfl ?_);rw[h4,h5]
   refine A0 (Gz na1 rfl ?_ (Bh _) (by
    show (if false=true then _ else Bw (p.toList.map λi=>vs.getD i Bx)).size<=sizeLine+1;rw[y8 Ay,Af,A3,Ar,h1,Bk]
    omega))
   simp only[bne_self_eq_false,B4,if_false];refine x6 (fin p H1 _ h1 h2 h3 sm ?_ ?_)
   .exact(J.pin _ (Ab _ (A7 _ A6))).2.1
   .have pl:∀i∈p.toList,i<vs.length:=wJ h2;have s2:=Bp (s'.heap.update kS (Cg λ_=>(#[]:Array A9))) a (Cg λ_=>Bw (p.toList.map λi=>vs.getD i Bx));refine a9.told (t':=s'.toks) J (λc u n1 n2 e=>(s2.2 c n1).trans ((s1.2 c n2).trans e)) ?_ ?_ h0 h0k (λx c e=>⟨An (hc x c e),ckS x c e⟩) (λq z=>⟨An (hp q z),pkS q ?_⟩)
    .have:(s'.heap.update kS (Cg λ_=>(#[]:Array A9))).get? kS=some _:=get?_update_seq hok λ_=>#[]
     exact⟨_,(s2.2 kS (Cw gk)).trans this⟩
    .refine⟨?_,p.toList.map λi=>vs.getD i Bx,_,MF rv _ λi hi=>by have:=pl i hi;have:=rv.length;omega,get?_update_seq na1 _⟩
     rw[A3,Ar,h1,Bk];omega
    .rcases Az.mp z with z|z
     .exact Bn _ z
     .exact Ab _ (A7 _ z)
  unfold ksk_end
  try right
  simp only[B4,if_false]
  have lks:kA.toList.length=vs.length:=by rw[Ar];exact lk
  by_cases h2:vs.toArray.size<2
  .rw[y6 h2,y6 h2];refine A0 (x6 ?_);rw[StateT.run_pure];refine A0 (x6 ?_);right;refine dO (SortSt.mk' general' (kA.zip vs.toArray) #[] 7 none) (Bw (Aa vs.length)) (by simp) (Fv _) (λi j bD hj=>?_) ?_ rfl
   .have:i=j:=by rw[Af]at h2;omega
    subst this;exact O.irr _
   .rw[show (Bw (Aa vs.length)).toList=Aa vs.length from rfl,Qu];apply Array.toList_inj.mp;show ((kA.zip vs.toArray).map (·.2)).toList=vs;apply Hv
    .simp[lk]
    .intro i g1 g2;simp
  .rw[y8 h2,y8 h2]
   have bh:2<=vs.length:=by rw[Af]at h2;omega
   have zk:=dE [(kS,Bj "list" kA e),(a,Bj "list" #[] e1)] H1 s' ks kA.toList sm J rk rr' ⋯ (λκ' bu=>κ'=κ/\bu=s') ⟨rfl,rfl⟩;rw[eK]at zk;refine A0 (Cm zk (λκ' bu hq=>?_) λ_ _ x=>x.elim);obtain⟨jm,iQ⟩:=hq;rw[jm,iQ];obtain⟨p,ep,p1,p2,p3⟩:=RU O (n:=vs.length) ⋯
   have kr:=kat_run (prog:=X.prog) (w:=X.w) (A:=A) (s:=s') (E:=λ_ _=>False) (κ:=κ) (ks:=kA.toList) (vs:=vs) (Q:=λaQ bu=>∃q,q.size=vs.length/\arrOf aQ=q.map (kas_item (kA.toList.toArray.zip vs.toArray))/\Nz aQ=none/\q=p/\bu=s') lks bh fD (λq aQ bu a1 a2 a3 a4=>⟨q,a1,a2,a3,a4⟩)
    (GT (lt:=lt) (n:=vs.length) (Ok:=λbu=>bu=s') (λi j C bu hi hj hs hC=>by
     rw[hs];unfold kas_ask;have z0:=hC s' rfl
     exact ak [(kS,Bj "list" kA e),(a,Bj "list" #[] e1)] H1 s' ks kA.toList sm J rk rr' i j ⋯ ⋯ C z0) _ s' (RT ⋯) rfl (λbu hs=>⟨ep,hs⟩))
   rw[eK]at kr;refine A0 (Cm kr ?_ λ_ _ e=>e.elim);rintro ⟨⟨⟩,aQ⟩ bu ⟨q,q1,q2,q3,hqp,hqs⟩;rw[hqs];rw[hqp]at q2;rw[<-eK]at q2;exact dO aQ p p1 p2 p3 (kat_snds lks q2) q3
end
structure BQ(sc outer:Scope)(N:List Ba)(cap:List (Option Nat))(M:List Ba):Prop where
 kind:sc.kind = .function
 cell:∀y∈sc.names,y.2≠.cell
 loc:∀y∈sc.names,y.2 = .local->sc.names.lookup y.1=some .local
 fre:∀y∈sc.names,y.2 = .free->sc.names.lookup y.1=some .free
 out:∀y∈sc.names,y.2 = .free->outer.names.lookup y.1=some .cell\/outer.names.lookup y.1=some .free
 sel:∀(i j:Nat),cap[i]?=some (some j)->∃x,N[i]?=some x/\M[j]?=some x/\sc.names.lookup x=some .free
 len:cap.length=N.length
 inj:∀(i j k:Nat),cap[i]?=some (some k)->cap[j]?=some (some k)->i=j
def Sg(hok:xW sc outer N cap M=true):BQ sc outer N cap M:=by unfold xW at hok;simp only[B8]at hok;have c:=AQ hok.1;have h2:=Fg.mp hok.2;exact⟨c.kind,λy hy=>by simpa using h2 y hy,c.loc,c.fre,c.out,c.sel,c.len,c.inj⟩
def pB(fb:ED)(Y:J5):List D->Option (List D)
 | []=>some []
 |d::ds=>match fb (Y.set 0 (some (.sh d))) with|some k=>(match pB fb Y ds with|some ks=>some (k::ks)|none=>none)|none=>none
theorem JF:∀{ds ks:List D},pB fb Y ds=some ks->ks.length=ds.length
 | [],ks,e=>by cases e;rfl
 |d::ds,ks,e=>by
  unfold pB at e;split at e
  .split at e
   .rename_i jg h;cases e;rw[Au,Au,JF h]
   .cases e
  .cases e
theorem IJ:∀{ds ks:List D} {i:Nat} {d k:D},pB fb Y ds=some ks->ds[i]?=some d->ks[i]?=some k->fb (Y.set 0 (some (.sh d)))=some k
 | [],ks,i,d,k,_,h,_=>by simp at h
 |d'::ds,ks,i,d,k,e,h1,h2=>by
  unfold pB at e;split at e
  .rename_i k' bQ;split at e
   .rename_i jg h;cases e
    cases i with
    |zero=>simp at h1 h2;subst h1;subst h2;exact bQ
    |succ i=>exact IJ (i:=i) h (by simpa using h1) (by simpa using h2)
   .cases e
  .cases e
def xB{α:Type}(le:α->α->Bool)(kk:List α)(ds:List D):List D:=((kk.zip ds).isrt λa b=>le a.1 b.1).map (·.2)
def qN(a b:Int):Bool:=decide (a<=b)
def FK(ks ds:List D):Option (List D):=if ds.length<64 then
  (match lJ ks with
  |some ns=>if ns.Nodup then some (xB qN ns ds) else none
  |none=>(match mP ks with|some nss=>if nss.Nodup then some (xB lV nss ds) else none|none=>none))
 else none
def qT(cap:List (Option Nat))(fa:EL)(fb:ED):EL:=λY=>match fa Y with
 |some ds=>(match pB fb (mD cap Y) ds with|some ks=>FK ks ds|none=>none)
 |none=>none
theorem QW{α:Type}{le:α->α->Prop}:∀{xs ys:List α},(∀a∈xs,∀b∈xs,le a b->le b a->a=b)->xs.Perm ys->xs.Pairwise le->ys.Pairwise le->(∀a,le a a)->xs=ys
 | [],ys,_,p,_,_,_=>(List.nil_perm.mp p).symm
 |x::xs,ys,cz,p,h1,h2,rf=>by
  cases ys with
  |nil=>exact u3 (List.perm_nil.mp p) (by simp)
  |cons y ys=>
   have hx:=D7.mp h1;have hy:=D7.mp h2
   have e:x=y:=by
    have m1:x∈y::ys:=p.mem_iff.mp A6;have m2:y∈x::xs:=p.mem_iff.mpr A6;refine cz x A6 y m2 ?_ ?_
    .rcases Ac.mp m2 with z|z
     .rw[z];exact rf x
     .exact hx.1 y z
    .rcases Ac.mp m1 with z|z
     .rw[z];exact rf y
     .exact hy.1 x z
   subst e;rw[QW (λa ha b hb=>cz a (A7 _ ha) b (A7 _ hb)) (List.perm_cons x |>.mp p) hx.2 hy.2 rf]
theorem R4{α β:Type}:∀{kk:List α} {ds:List β},kk.Nodup->∀a∈kk.zip ds,∀b∈kk.zip ds,a.1=b.1->a=b
 | [],_,_,a,ha,_,_,_=>by simp at ha
 |_::_,[],_,a,ha,_,_,_=>by simp at ha
 |k::kk,d::ds,nd,a,ha,b,hb,e=>by
  rw[Ey]at ha hb;have nd':=By.mp nd;rcases Ac.mp ha with z|z
  .rcases Ac.mp hb with y|y
   .rw[z,y]
   .exfalso
    have:=(Ij y).1
    rw[<-e,z]at this;exact nd'.1 this
  .rcases Ac.mp hb with y|y
   .exfalso
    have:=(Ij z).1
    rw[e,y]at this;exact nd'.1 this
   .exact R4 nd'.2 a z b y e
def Ξ{α β:Type}(dk:α)(dd:β):∀{kk:List α} {ds:List β},kk.length=ds.length->∀is:List Nat,(∀i∈is,i<kk.length)->(is.map λi=>(kk.getD i dk,ds.getD i dd))=is.map λi=>(kk.zip ds).getD i (dk,dd):=λ{kk ds} hl is hi=>by
 apply B6;intro i h;have h1:=hi i h
 have h2:i<ds.length:=by omega
 have e1:(kk.zip ds)[i]?=some (kk[i],ds[i]):=by rw[A4 (by rw[List.length_zip];omega),List.getElem_zip]
 rw[K5 (A4 h1),K5 (A4 h2),K5 e1]
def S0{α:Type}{le:α->α->Bool}(tr:∀a b c,le a b=true->le b c=true->le a c=true)(gg:∀a b,(le a b||le b a)=true)(cz:∀a b,le a b=true->le b a=true->a=b){kk:List α}{ds:List D}{dk:α}(hl:kk.length=ds.length)(nd:kk.Nodup){p:Array Nat}(p1:p.size=kk.length)(p2:p.Perm (Bw (Aa kk.length)))(p3:Up (λi j=>!le (kk.getD j dk) (kk.getD i dk)) p kk.length):(p.toList.map λi=>ds.getD i .non)=xB le kk ds:=by
 have pl:=wJ p2
 have e:(p.toList.map λi=>ds.getD i .non)=(p.toList.map λi=>(kk.getD i dk,ds.getD i .non)).map (·.2):=by rw[B2];rfl
 rw[e];unfold xB;congr 1
 have hz:(kk.zip ds).length=kk.length:=by rw[List.length_zip];omega
 have pm:(p.toList.map λi=>(kk.getD i dk,ds.getD i .non)).Perm (kk.zip ds):=by rw[Ξ dk D.non hl _ pl];exact MC (us:=kk.zip ds) (by rw[hz];exact p2)
 have up:((kk.zip ds).isrt λa b=>le a.1 b.1).Pairwise λa b=>le a.1 b.1=true:=AH (le:=λa b:α×D=>le a.1 b.1) (λa b c=>tr _ _ _) (λa b=>gg _ _) _
 refine QW (le:=λa b:α×D=>le a.1 b.1=true) (λa ha b hb h1 h2=>R4 nd a (pm.mem_iff.mp ha) b (pm.mem_iff.mp hb) (cz _ _ h1 h2)) (pm.trans (sE _ _).symm) ?_ up (λa=>by
  have:=gg a.1 a.1
  simpa using this)
 rw[Bu]
 exact(HG p1 p3).imp λh=>by simpa using h
def Ui(a b c:Int)(h1:qN a b=true)(h2:qN b c=true):qN a c=true:=by
 have:=lZ h1
 have:=lZ h2
 exact Y1 ⋯
def Rx(a b:Int):(qN a b||qN b a)=true:=by
 unfold qN;by_cases h:a<=b
 .simp[h]
 .simp;omega
def ϝ(a b:Int)(h1:qN a b=true)(h2:qN b a=true):a=b:=by
 have:=lZ h1
 have:=lZ h2
 omega
def Uj(a b c:List Int)(h1:lV a b=true)(h2:lV b c=true):lV a c=true:=by unfold lV at h1 h2 ⊢;simp only[Hf]at h1 h2 ⊢;exact yV a b c h1 h2
theorem Ry(a b:List Int):(lV a b||lV b a)=true:=by
 unfold lV
 cases h:HT.lexLt b a with
 |false=>rfl
 |true=>rw[DF b a h];rfl
def Ϟ(a b:List Int)(h1:lV a b=true)(h2:lV b a=true):a=b:=by unfold lV at h1 h2;simp only[Hf]at h1 h2;exact BZ a b h2 h1
def SZ{α:Type}{le:α->α->Bool}(tr:∀a b c,le a b=true->le b c=true->le a c=true)(gg:∀a b,(le a b||le b a)=true)(kk:List α)(dk:α):mT (λi j=>!le (kk.getD j dk) (kk.getD i dk)):=by
 refine⟨λi j h=>?_,λi j k h1 h2=>?_⟩
 .simp only[Hf,Bool.not_eq_false']at h ⊢
  have:=gg (kk.getD i dk) (kk.getD j dk)
  rw[h,Jx]at this;exact this
 .simp only[Bool.not_eq_false']at h1 h2 ⊢;exact tr _ _ _ h1 h2
def Λ{af:Array A9}(aC:ItemsOf (λi v=>∃t,v = .int (0+(i:Int)*1) t) af n):Y4 ((kB 0 n).map V.int) af.toList:=by
 have hv:∀(n:Nat) (af:List A9) (lo:Nat),af.length=n->(∀(i:Nat) v,af[i]?=some v->∃t,v = .int ((lo+i:Nat):Int) t)->Y4 ((Aa n).map λ(k:Nat)=>V.int ((lo+k:Nat):Int)) af:=by
  intro n
  induction n with
  |zero=>intro af lo hl _;cases af with|nil=>exact .nil|cons _ _=>cases hl
  |succ n ih=>
   intro af lo hl hg
   cases af with
   |nil=>cases hl
   |cons x af=>
    rw[Gp,Ai];refine .cons ?_ ?_
    .obtain⟨t,e⟩:=hg 0 x rfl;exact⟨t,e⟩
    .rw[B2]
     refine Eq.mp (lE (λl=>Y4 l af) (B6 λk _=>?_)) (ih af (lo+1) (by simpa using hl) λi v hv=>by
      obtain⟨t,e⟩:=hg (i+1) v (by simpa using hv);refine⟨t,?_⟩;rw[e];congr 2
      omega)
     simp only[Lz];congr 2;omega
 have:=hv n af.toList 0 (by simpa using aC.1) λi v e=>by obtain⟨t,e'⟩:=aC.2 i v (by simpa using e);exact⟨t,by rw[e'];congr 1;omega⟩
 unfold kB;rw[B2];refine Eq.mp (lE (λl=>Y4 l af.toList) (B6 λk _=>?_)) this;simp only[Lz];congr 1
def Ϛ{A:Bz}{s:Ae}{R:Kz->Ae->Prop}(hh:A.handled=none)(hr:IsRange s.heap r 0 j 1 t u v)(h1 : -(2 ^ 62)<=j)(h2:j<=100000)(S:As)(c₀:Nat)(hS:s.heap.get? S=some { cls:=.type "list",data:=.seq #[] c₀ })(hR:∀h' tk aT c',(∀b o,b≠S->s.heap.get? b=some o->h'.get? b=some o)->h'.get? S=some { cls:=.type "list",dict:=none,data:=.seq aT c',slots:=#[] }->ItemsOf (λi v=>∃t,v = .int (0+(i:Int)*1) t) aT j.toNat->R (.ok (.ret (.ref S))) { s with heap:=h',toks:=tk }):
  Eu (Aw prog w) A (.builtin "list.__iadd__" ⟨[.ref S,.ref r],[]⟩) R s:=by
 have hn:Iq 0 j 1=((j.toNat:Nat):Int):=by rw[Ng];split<;>omega
 refine codeAny_builtin F.entry_list_iadd ?_;rw[Br F.plain_list_iadd _];exact wpAny_extend_range hh hr (small_one ⋯ ⋯ h1 ⋯) hn ⋯ S (.ref S) c₀ hS hR
def QF{A:Bz}{s:Ae}{Q:List A9->Ae->Prop}(hh:A.handled=none)(hr:IsRange s.heap r 0 j 1 t u v)(h1 : -(2 ^ 62)<=j)(h2:j<=100000)(hQ:∀its h' tk,Y4 ((kB 0 j.toNat).map V.int) its->(∀b o,s.heap.get? b=some o->h'.get? b=some o)->s.heap.objs.size<=h'.objs.size->Q its { s with heap:=h',toks:=tk }):Ah (Aw prog w) A (Jz (.ref r)) Q E s:=by
 unfold Jz;refine A0 (Jb (codeAny_builtin F.entry_proto_collect ?_));rw[Br F.plain_proto_collect _];show Ah _ A.in1 (N7 [] >>= λl=>Mx (.builtin "list.__iadd__" ⟨[l,.ref r],[]⟩)) _ _ s;refine A0 (Bc ?_);have k1:∀b o,s.heap.get? b=some o->(s.heap.push { cls:=.type "list",data:=.seq ([]:List A9).toArray }).get? b=some o:=λb o e=>A8 _ e
 refine x6 ⟨plainId_quiet F.plain_list_iadd _,Ϛ hh (k1 _ _ hr) h1 h2 s.heap.objs.size 0 (Ak _ rfl) λh' tk aT c' hk gW aC=>?_⟩;show Ah _ A (load s.heap.objs.size >>= _) _ _ _;refine A0 (Mm gW ?_);exact x6 (hQ aT.toList h' tk (Λ aC) (λb o e=>hk b o (An (Aj e)) (k1 b o e)) (Dc (Aj gW)))
def U0(X:Cx)(Z:List As)(H:Hp)(a:As)(xs:List V):Prop:=i7 X.K H a xs\/i8 X.K (K0 Z H) a xs\/(X.calm=true/\∃j:Int,H a=some (.rng 0 j)/\-(2 ^ 62)<=j/\j<=100000/\xs=(kB 0 j.toNat).map V.int)
def tV(X:Cx)(f:EL):TE:=λU H Q=>∃Y ds B H0 V0 Z,f Y=some ds/\SR X.K B H0 V0 H Z U Y/\∀(a:As) (xs:List V) (H':Hp),J4 H H'->U0 X Z H' a xs->J3 X.K (K0 Z H') ds xs->Q (.ref a) H'
abbrev SV(X:Cx)(e:Expr)(f:EL):Prop:=PE X e (tV X f)
def v3H(h:SQ X e f):SV X e f:=j6 h λU H Q ⟨Y,ds,B,H0,V0,Z,e1,r,q⟩=>
 ⟨Y,ds,B,H0,V0,Z,e1,r,λa xs H' s hq rr=>q a xs H' s (hq.elim .inl λz=>.inr (.inl z)) rr⟩
def ũ{X:Cx}{p2 aU:Hi}(hc:X.calm=true)(cg:X.mg "range" = none)(h:SE X a fa)(eV:Gl X "range":=by rfl)(he:J0 a=true:=by rfl):SV X (.Call (.Name "range" p2) [a] [] aU) (oM fa):=
 j6 (oN HB eV cg ‹_› (J7 h Y5 (w9 he)) ∅ ∅ (w9 he) (K7 rfl)) λU H Q h_=>by
  refine f7 h_ λY d B H0 V0 Z e r q=>?_;unfold oM at e;split at e
  .rename_i j ej;split at e
   .rename_i hj;cases e;refine⟨Y,_,B,H0,V0,Z,ej,r,λv H' s rr=>?_⟩
    obtain rfl:=v7.mp rr
    refine⟨j,rfl,λp1 cN=>?_⟩;exact q p1 _ _ (s.trans (u9 cN)) (.inr (.inr ⟨hc,j,w6,hj.1,hj.2,rfl⟩)) (Y9.mpr rfl)
   .cases e
  .cases e
section
variable{X:Cx}{e body:Expr}{params:N6}{scope:Scope}{lp kp p pos:Hi}{fa:EL}{fb:ED}
def PN{x pn:Ba}{k:Nat}(N:List Ba)(cap:List (Option Nat))(hm:X.mg "sorted" = none)(bm:pF X.K X.mg)(hl:qI X.K X.env.code x=true)(hr:d8 (k+3) X.A)(ha:SV X e fa)(he:∀A' cl f cd s H,d8 k (pK X A' N (X.env.qual++"<lambda>") scope cl f cd s H).A->SE (pK X A' N (X.env.qual++"<lambda>") scope cl f cd s H) body fb)(hok:xW scope X.env.scope N cap X.N=true:=by rfl)(h0:cap[0]?=some none:=by rfl)(hp:N[0]?=some pn:=by rfl)(au:scope.names.lookup pn=some .local:=by rfl)(dz:scope.isCoroutine=false:=by rfl)(cb:scope.isGenerator=false:=by rfl)(hq:X.env.qual=x++".<locals>.":=by rfl)(bT:Mp params X.env=([],[]):=by rfl)(hb:∀(cl:List (Ba×As)) (az pm:A9) (c:As) (ct u:A9),Gu (Je "<lambda>" (X.env.qual++"<lambda>") params (.expr body) scope cl .none az pm (.ref c) ct) ⟨[u],[]⟩=Ci [(pn,u)]:=by intros;rfl)(hg:Gl X "sorted":=by rfl)(hv:Db "sorted" = some (.builtin "sorted"):=by decide +kernel)(hs:J0 e=true:=by rfl):
  SF X (.Call (.Name "sorted" p) [e] [⟨some "key",.Lambda params body scope lp,kp⟩] pos) (qT cap fa fb):=by
 intro aa s U H Q I h;have C:=Sg hok;obtain⟨Y,es,B,H0,V0,Z,e1,r,q⟩:=h;unfold qT at e1;split at e1
 .rename_i ds aF;split at e1
  .rename_i ks jB;refine Ex (pN I hg hm hv ?_ ∅ ∅)
   have cn:F0 pos (Bt [e] X.env)=(false,Ec e X.env)::F0 pos (Bt [] X.env):=by rw[(w9 hs)];rfl
   refine G9 ?_ cn (by rw[cn];rfl)
   refine jK (J7 ha Y5 (w9 hs) pos aa s U H (λvs H1=>∃a xs,vs=[.ref a]/\J4 H H1/\U0 X Z H1 a xs/\J3 X.K (K0 Z H1) ds xs) I ⟨Y,ds,B,H0,V0,Z,aF,r,λa xs H1 s1 hq rr=>⟨a,xs,rfl,s1,hq,rr⟩⟩) λus s1 vs H1 I1 fP ⟨a,xs,eJ,cK,fQ,rr⟩=>?_;subst eJ;obtain⟨u,rfl,ru⟩:=l7 fP;cases ru;have R1:=r.mono cK;obtain⟨cl,ar,hc1,aY⟩:=KJ (env:=X.env) (scope:=scope) λy hy hf=>I1.ok.has y.1 (C.out y hy hf)
   show Ah _ _ (evalAll ((do let v <-Ec (.Lambda params body scope lp) X.env;Lf pos;Ci v)::[])) _ _ s1
   refine Gq (A0 (Uq I1 R1.tb bm hl hq ar bT λf c oc ws t az pm ct s2 H2 aR I2 hfc hd hws=>A0 (Gy (x6 (Jg ?_)))));show Ah _ _ (call (.builtin "sorted") [.ref a] [(Bl "key",.ref f)]) _ _ s2;have l1:=rr.length;have l3:=JF jB;unfold FK at e1;split at e1
   .rename_i fD;generalize dA:zV (X.env.qual++"<lambda>") params body scope cl az pm c ct=fo at I2
    have xl:xs.length<64:=by omega
    have col:∀{E':VP} {Q':List A9->Ae->Prop},(∀its h' tk,Y4 xs its->(∀b o,s2.heap.get? b=some o->h'.get? b=some o)->s2.heap.objs.size<=h'.objs.size->Q' its { s2 with heap:=h',toks:=tk })->Ah (Aw X.prog X.w) X.A.in1 (Jz (.ref a)) Q' E' s2:=λ{E' Q'} z=>by
     have ext:∀its:List A9,(∀b o,s2.heap.get? b=some o->((s2.heap.push (Bj "list" #[] 0)).update s2.heap.objs.size (Cg (·++its.toArray))).get? b=some o)/\s2.heap.objs.size<=((s2.heap.push (Bj "list" #[] 0)).update s2.heap.objs.size (Cg (·++its.toArray))).objs.size:=λits=>
      ⟨λb o y=>(Bd _ _ (Cz (An (Aj y)))).trans (A8 _ y),by rw[Hw,Mo];exact E9 _⟩
     rcases fQ with y|y|⟨hc,j,hj,j1,j2,rfl⟩
     .obtain⟨its,rv,pl,_⟩:=I2.list (aR.seq y);have l2:=rv.length;exact collect_list pl.isList (z its _ s2.toks rv (ext its).1 (ext its).2) (by rw[Bk];omega)
     .obtain⟨its,rv,pl,_⟩:=I2.tuple (j9 (v4.trans aR) y);have l2:=rv.length;exact Qe pl (z its _ s2.toks rv (ext its).1 (ext its).2) (by rw[Bk];omega)
     .obtain⟨t',u',v',ho⟩:=(show kX X.prog X.w H2 s2.heap a (.rng 0 j) from I2.hok a _ (aR _ _ hj));exact QF (show X.A.in1.handled=none from I2.ok.hd hc) ho j1 j2 z
    refine PyProof.Rows.call_function_entry_kw kind_sorted plain_sorted entry_sorted (ksk_s1 _ _) ?_;unfold C1.«sorted»;refine A0 (m:=checkCount "sorted" 1 1 _) (x6 ?_);refine A0 (col λits h' tk rv bQ cY=>?_);have l2:=rv.length
    have hz:its.length<=sizeLine:=by rw[Bk];omega
    refine A0 (Ig ?_ hz);have g2:(h'.push (Bj "list" its.toArray 0)).get? h'.objs.size=some (Bj "list" its.toArray 0):=Ak h' (o:=Bj "list" its.toArray 0) rfl;have g3:∀b o,s2.heap.get? b=some o->(h'.push (Bj "list" its.toArray 0)).get? b=some o:=λb o z=>A8 _ (bQ b o z)
    have I3:a9 X ((h'.objs.size,Bj "list" its.toArray 0)::(f,fo)::aa) U H2 { s2 with heap:=h'.push (Bj "list" its.toArray 0),toks:=tk }:=a9.pin1 (I2.kept (t':=tk) g3) g2 (I2.hok.fresh cY) (Cw (B3 I2.lt cY)) (I2.nofs cY) (λv z=>by cases z)
    have iw:∀y c',X.env.cells.lookup y=some c'->c'<h'.objs.size:=λy c' z=>by obtain⟨v,o,ho,_⟩:=I2.cell y c' z;exact B3 (Aj ho) cY
    have jc:∀w∈X.pn++(f,fo)::aa,w.1<h'.objs.size:=λw z=>B3 (Aj (I2.pin w z).1) cY
    have turn:∀(i:Nat) (u:A9) (d:D),its[i]?=some u->ks[i]?=some d->∀(more:i6) (H3:Hp) (s3:Ae),J4 H2 H3->a9 X (more++(f,fo)::aa) U H3 s3 ->
      Ah (Aw X.prog X.w) X.A.in1.in1 (call (.ref f) [u]) (EP X (more++(f,fo)::aa) U λk' H4=>J4 H3 H4/\e9 X.K (K0 Z H4) d k') (λ_ _=>False) s3:=λi u d hu gq more H3 s3 bo I4=>by
     have hi:i<its.length:=(B0.mp hu).1;have eA:ds[i]?=some ds[i]:=A4 ⋯;obtain⟨v,cG,rv0⟩:=(rr.mono (x9 (aR.trans bo))).get eA;obtain⟨u',hu',ru⟩:=rv.get cG;rw[hu]at hu';cases hu';have iE:s3.heap.get? f=some fo:=(I4.pin (f,fo) (Ab _ (Ab _ A6))).1;rw[<-dA]at iE;obtain⟨uu,fK⟩:=hfc;have gH:d8 (k+1) X.A.in1.in1:=(d8.in1 (d8.in1 hr))
     exact SD (te:=tD X.K fb) I4 I.ok.frames (gH.mono (Bh _)) iE ⟨uu,bo _ _ fK⟩ hd hws C.kind C.cell dz cb hc1 aY C.fre
      (λi j z=>let ⟨y,n1,n2,n3⟩:=C.sel i j z;⟨y,n1,n2,n3,C.out _ (Cc n3) rfl⟩) C.len h0 hp au ru (hb cl az pm c ct u) (he _ _ _ _ _ _ (gH.deeper _))
      ⟨(mD cap Y).set 0 (some (.sh ds[i])),d,B,H0,V0,Z,IJ jB eA gq,((AN C.inj (r.mono (cK.trans (aR.trans bo)))).set rv0),λw H4 gQ rw'=>⟨gQ,rw'⟩⟩
    have fin:∀{cD:List D},cD=es->∀(pp:Array Nat) (H3:Hp) (s3:Ae),pp.size=its.length->pp.Perm (Bw (Aa its.length))->(pp.toList.map λi=>ds.getD i .non)=cD->J4 H2 H3->H3 (h'.objs.size)=none ->
      a9 X ((f,fo)::aa) U (upd H3 (h'.objs.size) (.lst (pp.toList.map λi=>xs.getD i .non))) s3->EP X aa U Q (.ref (h'.objs.size)) s3:=λ{cD} ee pp H3 s3 z1 z2 z3 bo hn I4=>by
     have pl:=wJ z2;have gQ:=cK.trans (aR.trans bo);have hn0:H (h'.objs.size)=none:=gQ.free hn;refine⟨.ref (h'.objs.size),_,a9.tail I4,rfl,q _ _ _ (gQ.trans (u9 hn)) hn0 w6 ?_⟩;rw[<-ee,<-z3];exact(ME (rr.mono (x9 (aR.trans bo))) _ λi hi=>by have:=pl i hi;omega).mono (rC hn (u9 hn))
    refine A0 (Ca (wpAny_call_entry_kw slot_list_sort ⟨_,g2,rfl⟩ entry_list_sort ?body (ksk_l1 _ _)))
    case body=>
     show Ah (Aw X.prog X.w) X.A.in1.in1 (C1.«list.sort» ⟨[.ref (h'.objs.size)],[(Bl "key",.ref f)]⟩) _ _ _;rw[ksk_t1];have h0':X.s₀.heap.objs.size<=h'.objs.size:=C7 I2.sz cY;split at e1
     .rename_i ns hn;split at e1
      .rename_i nd;cases e1;have bC:=rF hn
       have jk:ns.length=its.length:=by rw[bC,A3]at l3;omega
       refine Tj (κ:=oneType') (SZ Ui Rx ns 0) I3 ⋯ ⋯ rv h0' iw jc turn (λmore H3 s3 kx kvs bo I4 rk dm g Q' q'=>?_) (λmore H3 s3 kx kvs bo I4 rk dm i j hi hj C' hC=>?_)
        (λpp H3 s3 z1 z2 z3 bo bB I4=>⟨_,rfl,x6 ⟨_,rfl,fin rfl pp H3 s3 z1 z2 (S0 Ui Rx ϝ ⋯ nd ⋯ (by rw[jk];exact z2) (by rw[jk];exact z3)) bo bB I4⟩⟩)
       .rw[bC,Y9]at dm;subst dm;have hi:Cj kvs ns:=Z3 rk;rw[Pv hi g];exact x6 q'
       .rw[bC,Y9]at dm;subst dm;have hI:Cj kvs ns:=Z3 rk;obtain⟨ti,ei⟩:=DY hI hi;obtain⟨tj,ej⟩:=DY hI hj;rw[ei,ej,keyLt'_oneType];refine oneLt_int ?_
        have:(!qN (ns.getD j 0) (ns.getD i 0))=decide (ns.getD i 0<ns.getD j 0):=by
         unfold qN;by_cases z:ns.getD i 0<ns.getD j 0
         .rw[Y1 z,W4 ⋯];rfl
         .rw[W4 z,Y1 ⋯];rfl
        rw[this]at hC;exact hC
      .cases e1
     .split at e1
      .rename_i nss hn;split at e1
       .rename_i nd;cases e1;obtain⟨bC,am⟩:=DP hn
        have jk:nss.length=its.length:=by rw[bC,A3]at l3;omega
        refine Tj (κ:=tuples' (C4 "int" != C4 "tuple")) (SZ Uj Ry nss []) I3 ⋯ ⋯ rv h0' iw jc turn (λmore H3 s3 kx kvs bo I4 rk dm g Q' q'=>?_) (λmore H3 s3 kx kvs bo I4 rk dm i j hi hj C' hC=>?_)
         (λpp H3 s3 z1 z2 z3 bo bB I4=>⟨_,rfl,x6 ⟨_,rfl,fin rfl pp H3 s3 z1 z2 (S0 Uj Ry Ϟ ⋯ nd ⋯ (by rw[jk];exact z2) (by rw[jk];exact z3)) bo bB I4⟩⟩)
        .rw[bC]at dm;obtain⟨fs,t1,t2,t3⟩:=KU I4 (λ_ _ z=>z) am (dm.mono v4) rk;refine kat_kind t1 ⋯ (λv hv=>?_) rfl q';obtain⟨n,t,rfl⟩:=t3 v hv;exact Looks.of_pure rfl
        .rw[bC]at dm;have ip:=dm.mono (v4 (Z:=Z));have lk1:=dm.length;have lk2:=rk.length;rw[A3]at lk1
         have gi:i<nss.length:=by omega
         have gj:j<nss.length:=by omega
         obtain⟨xi,f1,r1⟩:=ip.get (i:=i) (d:=D.tup (nss[i].map D.int)) (by rw[Ao,A4 gi];rfl)
         obtain⟨xj,f2,r2⟩:=ip.get (i:=j) (d:=D.tup (nss[j].map D.int)) (by rw[Ao,A4 gj];rfl)
         obtain⟨ui,k1,s1'⟩:=rk.get f1;obtain⟨uj,k2,s2'⟩:=rk.get f2;obtain⟨ai,oi,ji,ni,rfl,iD,fZ,hdi,ii⟩:=tM I4 r1 s1';obtain⟨aj,oj,jj,nj,rfl,hoj,hcj,hdj,ij⟩:=tM I4 r2 s2';rw[K5 k1,K5 k2];rw[K5 (A4 gi),K5 (A4 gj)]at hC
         have:(!lV nss[j] nss[i])=HT.lexLt nss[i] nss[j]:=by unfold lV;rw[Bool.not_not]
         rw[this]at hC;refine kat_lt iD hdi hoj hdj (II ii ij 0 _ ?_ hC);have a1:=ii.length;have a2:=ij.length;rw[Ar]at a1 a2;rw[a1,a2]
       .cases e1
      .cases e1
   .cases e1
  .cases e1
 .cases e1
def Zc{x pn:Ba}{k:Nat}(N:List Ba)(cap:List (Option Nat))(hm:X.mg "sorted" = none)(bm:pF X.K X.mg)(hl:qI X.K X.env.code x=true)(hr:d8 (k+3) X.A)(ha:ZQ X e fa)(he:∀A' cl f cd s H,d8 k (pK X A' N (X.env.qual++"<lambda>") scope cl f cd s H).A->ZE (pK X A' N (X.env.qual++"<lambda>") scope cl f cd s H) body fb)(hok:xW scope X.env.scope N cap X.N=true:=by rfl)(h0:cap[0]?=some none:=by rfl)(hp:N[0]?=some pn:=by rfl)(au:scope.names.lookup pn=some .local:=by rfl)(dz:scope.isCoroutine=false:=by rfl)(cb:scope.isGenerator=false:=by rfl)(hq:X.env.qual=x++".<locals>.":=by rfl)(bT:Mp params X.env=([],[]):=by rfl)(hb:∀(cl:List (Ba×As)) (az pm:A9) (c:As) (ct u:A9),Gu (Je "<lambda>" (X.env.qual++"<lambda>") params (.expr body) scope cl .none az pm (.ref c) ct) ⟨[u],[]⟩=Ci [(pn,u)]:=by intros;rfl)(hg:Gl X "sorted":=by rfl)(hs:J0 e=true:=by rfl): ZF X (.Call (.Name "sorted" p) [e] [⟨some "key",.Lambda params body scope lp,kp⟩] pos) (qT cap fa fb):=
 ⟨have ha:=ha.h;
 have he:=λA' cl f cd s H hr=>(he A' cl f cd s H hr).h;
 PN N cap hm bm hl hr (v3H ha) he hok h0 hp au dz cb hq bT hb hg ‹_› hs⟩
def Ģ{x pn:Ba}{k:Nat}{p2 aU:Hi}(N:List Ba)(cap:List (Option Nat))(jf:X.calm=true)(hm:X.mg "sorted" = none)(cg:X.mg "range" = none)(bm:pF X.K X.mg)(hl:qI X.K X.env.code x=true)(hr:d8 (k+3) X.A)(ha:ZE X a fc)(he:∀A' cl f cd s H,d8 k (pK X A' N (X.env.qual++"<lambda>") scope cl f cd s H).A->ZE (pK X A' N (X.env.qual++"<lambda>") scope cl f cd s H) body fb)(hok:xW scope X.env.scope N cap X.N=true:=by rfl)(h0:cap[0]?=some none:=by rfl)(hp:N[0]?=some pn:=by rfl)(au:scope.names.lookup pn=some .local:=by rfl)(dz:scope.isCoroutine=false:=by rfl)(cb:scope.isGenerator=false:=by rfl)(hq:X.env.qual=x++".<locals>.":=by rfl)(bT:Mp params X.env=([],[]):=by rfl)(hb:∀(cl:List (Ba×As)) (az pm:A9) (c:As) (ct u:A9),Gu (Je "<lambda>" (X.env.qual++"<lambda>") params (.expr body) scope cl .none az pm (.ref c) ct) ⟨[u],[]⟩=Ci [(pn,u)]:=by intros;rfl)(hg:Gl X "sorted":=by rfl)(eV:Gl X "range":=by rfl)(bE:J0 a=true:=by rfl):ZF X (.Call (.Name "sorted" p) [.Call (.Name "range" p2) [a] [] aU] [⟨some "key",.Lambda params body scope lp,kp⟩] pos) (qT cap (oM fc) fb):=
 ⟨have ha:=ha.h;
 have he:=λA' cl f cd s H hr=>(he A' cl f cd s H hr).h;
 PN N cap hm bm hl hr (ũ jf cg ha eV bE) he hok h0 hp au dz cb hq bT hb hg ‹_› rfl⟩
end
def W7(gt:Nat->Nat->Bool):Nat->Nat->Nat->Nat
 | 0,_,b=>b
 |r+1,j,b=>W7 gt r (j+1) (if gt j b=true then j else b)
section
variable{X:Cx}{aa:i6}{U:St}{H:Hp}{s:Ae}
def a9.swap{p q:As×Ka}(J:a9 X (p::q::aa) U H s):a9 X (q::p::aa) U H s:=J.pins_of λr z=>J.pin r (Ab _ (by
 rcases Ac.mp z with z|z
 .rw[z];exact A7 _ A6
 .rcases Ac.mp z with z|z
  .rw[z];exact A6
  .exact A7 _ (A7 _ z)))
def a9.repin'{b:As}{o o':Ka}{h':Ch}{t':Nat}(J:a9 X ((b,o)::aa) U H s)(hk:∀c u,c≠b->s.heap.get? c=some u->h'.get? c=some u)(ho:h'.get? b=some o')(h0:X.s₀.heap.objs.size<=b)(hc:∀x c,X.env.cells.lookup x=some c->c≠b)(hp:∀p∈X.pn++aa,p.1≠b)(hd:∀v,o'.data≠.cell v):a9 X ((b,o')::aa) U H { s with heap:=h',toks:=t' }:=by obtain⟨_,p2,p3,p4,_⟩:=J.pin (b,o) (Ab _ A6);exact a9.pin1 ((a9.tail J).turned (h':=h') (t':=t') (λc u ne e=>hk c u ne e) p2 p3 (.inr h0) hc hp) ho p2 p3 p4 hd
def a9.gone{b:As}{o:Ka}{h':Ch}{t':Nat}(J:a9 X ((b,o)::aa) U H s)(hk:∀c u,c≠b->s.heap.get? c=some u->h'.get? c=some u)(h0:X.s₀.heap.objs.size<=b)(hc:∀x c,X.env.cells.lookup x=some c->c≠b)(hp:∀p∈X.pn++aa,p.1≠b):a9 X aa U H { s with heap:=h',toks:=t' }:=by obtain⟨_,p2,p3,p4,_⟩:=J.pin (b,o) (Ab _ A6);exact(a9.tail J).turned (h':=h') (t':=t') (λc u ne e=>hk c u ne e) p2 p3 (.inr h0) hc hp
structure NK(X:Cx)(aa:i6)(U:St)(H:Hp)(A:Bz)(it ax:As)(xs:List V)(Φ:Nat->Ka->Prop)(Sx:Nat->Ch->Prop):Prop where
 W:Nf X.prog X.w A it [it,ax] [it] xs.length (λi v=>∃x,xs[i]?=some x/\f9 x v) Sx
 to:∀(i:Nat) (o:Ka) (more:i6) (H1:Hp) (s1:Ae),J4 H H1->a9 X (more++aa) U H1 s1->s1.heap.get? it=some o->Φ i o->Sx i s1.heap
 of:∀i h,Sx i h->∃o,h.get? it=some o/\Φ i o
 nc:∀i o v,Φ i o->o.data≠.cell v
variable{A:Bz}{E:VP}
def uD(X:Cx)(aa:i6)(U:St)(H:Hp)(A:Bz)(Z:List As)(av:A9)(xs:List V)(kds:List D):Prop:=
 ∀(i:Nat) (x:V) (u:A9) (d:D),xs[i]?=some x->f9 x u->kds[i]?=some d->∀(more:i6) (H1:Hp) (s1:Ae),J4 H H1->a9 X (more++aa) U H1 s1 ->
   Ah (Aw X.prog X.w) A (call av [u]) (EP X (more++aa) U λk H2=>J4 H1 H2/\e9 X.K (K0 Z H2) d k) (λ_ _=>False) s1
def qU(X:Cx)(aa:i6)(U:St)(H:Hp)(A:Bz)(Z:List As)(kds:List D)(gt:Nat->Nat->Bool):Prop:=
 ∀(more:i6) (H1:Hp) (s1:Ae),J4 H H1->a9 X (more++aa) U H1 s1->∀(i j:Nat) (di dj:D) (x y:V) (u v:A9),kds[i]?=some di->kds[j]?=some dj->e9 X.K (K0 Z H1) di x->e9 X.K (K0 Z H1) dj y->f9 x u->f9 y v ->
  ∀(Q:VP) (E:VP),Q (.bool (gt i j)) s1->Ah (Aw X.prog X.w) A (Gm .Gt u v) Q E s1
theorem ϡ{it S ax:As}{xs:List V}{Φ:Nat->Ka->Prop}{Sx:Nat->Ch->Prop}{av:A9}{kw:List (Ba×A9)}{kds:List D}{Z:List As}{gt:Nat->Nat->Bool}{R:Kz->Ae->Prop}(bi:(∃q,av = .ref q)\/∃id,av = .builtin id)(ab:kds.length=xs.length)(h0:X.s₀.heap.objs.size<=it)(h1:X.s₀.heap.objs.size<=S)(am:S≠it)(hc:∀x c,X.env.cells.lookup x=some c->c≠it/\c≠S)(hp:∀p∈X.pn++aa,p.1≠it/\p.1≠S)(src:NK X aa U H A.in1 it ax xs Φ Sx)(turn:uD X aa U H A.in1 Z av xs kds)(cI:qU X aa U H A.in1 Z kds gt)(hR:∀b x v H1 s1,xs[b]?=some x->f9 x v->b=W7 gt (xs.length-1) 1 0->J4 H H1->a9 X aa U H1 s1->R (.ok (.ret v)) s1):
  ∀(r j b:Nat) (H1:Hp) (s1:Ae) (xb:V) (vb bq:A9) (kb:V) (db:D) (c:Nat) (oI:Ka),xs.length-j=r->j<=xs.length->W7 gt r j b=W7 gt (xs.length-1) 1 0->J4 H H1->a9 X ((S,Bj "list" #[vb,bq] c)::(it,oI)::aa) U H1 s1->Φ j oI ->
   xs[b]?=some xb->f9 xb vb->kds[b]?=some db->e9 X.K (K0 Z H1) db kb->f9 kb bq->Eu (Aw X.prog X.w) A (.builtin "max.loop" ⟨[.ref it,av,.ref S],kw⟩) R s1:=by
 have ff:(L8 "max"++L8 ".loop":String) = "max.loop":=by decide
 have pS:∀(o:Ka),∀p∈X.pn++(it,o)::aa,p.1≠S:=λo p z=>by
  rcases Az.mp z with z|z
  .exact(hp p (Bn _ z)).2
  .rcases Ac.mp z with z|z
   .rw[z];exact Cz am
   .exact(hp p (Ab _ z)).2
 have pI:∀(o:Ka),∀p∈X.pn++(S,o)::aa,p.1≠it:=λo p z=>by
  rcases Az.mp z with z|z
  .exact(hp p (Bn _ z)).1
  .rcases Ac.mp z with z|z
   .rw[z];exact am
   .exact(hp p (Ab _ z)).1
 intro r
 induction r with
 |zero=>
  intro j b H1 s1 xb vb bq kb db c oI hr hj bv sm J hΦ hvb rxb bG rb rv
  have da:j=xs.length:=by omega
  have gS:s1.heap.get? S=some (Bj "list" #[vb,bq] c):=(J.pin _ (Ab _ A6)).1;have gI:s1.heap.get? it=some oI:=(J.pin _ (Ab _ (A7 _ A6))).1
  have sx:Sx xs.length s1.heap:=by rw[<-da];exact src.to j oI [(S,Bj "list" #[vb,bq] c),(it,oI)] H1 s1 sm J gI hΦ
  refine codeAny_builtin Jh ?_;rw[Br Dr _];show Ah _ A.in1 (Ju (.ref S) >>= _) _ _ _;refine A0 (En gS rfl ?_);show Ah _ A.in1 (Gg (Hb (.ref it)) _ >>= _) _ _ _;refine A0 (Eb (src.W.done _ _ _ sx λh' dg bQ=>?_));have gS':h'.get? S=some (Bj "list" #[vb,bq] c):=bQ S _ (by simpa using am) gS
  have J1:a9 X ((S,Bj "list" #[vb,bq] c)::aa) U H1 { s1 with heap:=h',toks:=dg }:=a9.gone (a9.swap J) (λc u ne e=>bQ c u (by simpa using ne) e) h0 (λx c e=>(hc x c e).1) (pI _);show Ah _ A.in1 (Gh S (λ_=>#[]) >>= _) _ _ _;refine A0 (Ee gS' rfl (A0 (Gn (x6 ?_))));have hb0:b=W7 gt (xs.length-1) 1 0:=bv;exact hR b xb vb H1 _ hvb rxb hb0 sm (a9.gone (t':=dg) J1 (λc u ne e=>(Bd _ _ (Cz ne)).trans e) h1 (λx c e=>(hc x c e).2) (λp z=>(hp p z).2))
 |succ r ih=>
  intro j b H1 s1 xb vb bq kb db c oI hr hj bv sm J hΦ hvb rxb bG rb rv
  have ak:j<xs.length:=by omega
  have gS:s1.heap.get? S=some (Bj "list" #[vb,bq] c):=(J.pin _ (Ab _ A6)).1;have gI:s1.heap.get? it=some oI:=(J.pin _ (Ab _ (A7 _ A6))).1;have sx:Sx j s1.heap:=src.to j oI [(S,Bj "list" #[vb,bq] c),(it,oI)] H1 s1 sm J gI hΦ;refine codeAny_builtin Jh ?_;rw[Br Dr _]
  show Ah _ A.in1 (Ju (.ref S) >>= _) _ _ _;refine A0 (En gS rfl ?_);show Ah _ A.in1 (Gg (Hb (.ref it)) _ >>= _) _ _ _;refine A0 (Eb (src.W.item j _ _ _ ak sx λv h' dg hP fV bQ=>?_));obtain⟨x,hv,rx⟩:=hP;obtain⟨cE,gI',gL⟩:=src.of (j+1) h' fV;have J1:a9 X ((S,Bj "list" #[vb,bq] c)::(it,cE)::aa) U H1 { s1 with heap:=h',toks:=dg }:=a9.swap (a9.repin' (a9.swap J) (λc u ne e=>bQ c u (by simpa using ne) e) gI' h0 (λx c e=>(hc x c e).1) (pI _) (λw=>src.nc _ _ w gL))
  have eI:kds[j]?=some kds[j]:=A4 ⋯;have dU:Ah (Aw X.prog X.w) A.in1 (call av [v]) (EP X ((S,Bj "list" #[vb,bq] c)::(it,cE)::aa) U λk H2=>J4 H1 H2/\e9 X.K (K0 Z H2) kds[j] k) (λ_ _=>False) { s1 with heap:=h',toks:=dg }:=turn j x v _ hv rx eI [(S,Bj "list" #[vb,bq] c),(it,cE)] H1 _ sm J1
  have dH:Ah (Aw X.prog X.w) A.in1 (Gg (Hs [v] (call av [v])) λe=>do
    Gh S λ_=>#[]
    letGo ([v]++[vb,bq].reverse) [e]
    throw e) (EP X ((S,Bj "list" #[vb,bq] c)::(it,cE)::aa) U λk H2=>J4 H1 H2/\e9 X.K (K0 Z H2) kds[j] k) (λ_ _=>False) { s1 with heap:=h',toks:=dg }:=
   Eb (Ca (Cm dU (λ_ _ z=>z) λ_ _ z=>z.elim))
  have rest:∀(k:A9) (s2:Ae),EP X ((S,Bj "list" #[vb,bq] c)::(it,cE)::aa) U (λk H2=>J4 H1 H2/\e9 X.K (K0 Z H2) kds[j] k) k s2 ->
    ∀(P:Na->Ae->Prop) (E':VP),(∀s3,Eu (Aw X.prog X.w) A (.builtin "max.loop" ⟨[.ref it,av,.ref S],kw⟩) R s3->P (.again (.builtin "max.loop" ⟨[.ref it,av,.ref S],kw⟩)) s3) ->
    Ah (Aw X.prog X.w) A.in1 (do
     let better <-Gg (Hs [v,k] do
       let answer <-Gm .Gt k bq
       let yes <-Hs [answer] (Oj answer)
       letGo [answer]
       Ci yes) λe=>do
      Gh S λ_=>#[]
      letGo ([k,v]++[vb,bq].reverse) [e]
      throw e
     if better then
      Gh S λ_=>#[v,k]
      letGo [bq,vb]
     else letGo [v,k]
     Ci (Kk (.builtin "max.loop" ⟨[.ref it,av,.ref S],kw⟩))) P E' s2:=λk s2 he P E' hP=>by
   obtain⟨kx,H2,J2,rk,aR,rd⟩:=he;refine A0 (Eb (Ca (A0 (cI [(S,Bj "list" #[vb,bq] c),(it,cE)] H2 s2 (sm.trans aR) J2 j b _ _ kx kb k bq eI bG rd (rb.mono (x9 aR)) rk rv _ _ ?_))));refine A0 (Ca (Dk (A0 (Gn (x6 ?_)))));have dJ:s2.heap.get? S=some (Bj "list" #[vb,bq] c):=(J2.pin _ (Ab _ A6)).1
   have aW:W7 gt r (j+1) (if gt j b=true then j else b)=W7 gt (xs.length-1) 1 0:=bv
   cases hg:gt j b with
   |true=>rw[hg,y6 rfl]at aW;simp only[if_true];obtain⟨c2,aY⟩:∃c2,(s2.heap.update S (Cg λ_=>#[v,k])).get? S=some (Bj "list" #[v,k] c2):=⟨_,get?_update_seq dJ λ_=>#[v,k]⟩;refine A0 (Ee dJ rfl (A0 (Gn (x6 (hP _ ?_)))));refine ih (j+1) j H2 _ x v k kx _ c2 cE ⋯ ak aW (sm.trans aR) ?_ gL hv rx eI rd rk;exact a9.repin' (t':=s2.toks) J2 (λc u ne e=>(Bd _ _ (Cz ne)).trans e) aY h1 (λx c e=>(hc x c e).2) (pS _) (λw z=>by cases z)
   |false=>rw[hg,y8 Ay]at aW;simp only[B4,if_false];refine A0 (Gn (x6 (hP _ ?_)));exact ih (j+1) b H2 _ xb vb bq kb db c cE ⋯ ak aW (sm.trans aR) J2 gL hvb rxb bG (rb.mono (x9 aR)) rv
  rcases bi with⟨q,rfl⟩|⟨id,rfl⟩
  .show Ah _ A.in1 (Gg (Hs [v] (call (.ref q) [v])) _ >>= _) _ _ _;refine A0 (Cm dH (λk s2 he=>?_) λ_ _ z=>z.elim);refine rest k s2 he _ _ λs3 z=>?_;exact⟨plainId_quiet Dr _,z⟩
  .show Ah _ A.in1 (Gg (Hs [v] (call (.builtin id) [v])) _ >>= _) _ _ _;refine A0 (Cm dH (λk s2 he=>?_) λ_ _ z=>z.elim);refine rest k s2 he _ _ λs3 z=>?_;exact⟨plainId_quiet Dr _,z⟩
end
section
variable{X:Cx}{aa:i6}{U:St}{H:Hp}{s:Ae}{A:Bz}{E:VP}
theorem Yq{it S ax:As}{xs:List V}{Φ:Nat->Ka->Prop}{Sx:Nat->Ch->Prop}{av:A9}{kw:List (Ba×A9)}{kds:List D}{Z:List As}{gt:Nat->Nat->Bool}{R:Kz->Ae->Prop}{c:Nat}{oI:Ka}(bi:(∃q,av = .ref q)\/∃id,av = .builtin id)(ab:kds.length=xs.length)(h0:X.s₀.heap.objs.size<=it)(h1:X.s₀.heap.objs.size<=S)(am:S≠it)(hc:∀x c,X.env.cells.lookup x=some c->c≠it/\c≠S)(hp:∀p∈X.pn++aa,p.1≠it/\p.1≠S)(src:NK X aa U H A.in1 it ax xs Φ Sx)(turn:uD X aa U H A.in1 Z av xs kds)(cI:qU X aa U H A.in1 Z kds gt)(hR:∀b x v H1 s1,xs[b]?=some x->f9 x v->b=W7 gt (xs.length-1) 1 0->J4 H H1->a9 X aa U H1 s1->R (.ok (.ret v)) s1)(hE:xs=[]->∃x d,kw=[(x,d)]/\∀s1,a9 X aa U H s1->R (.ok (.ret d)) s1)(J:a9 X ((S,Bj "list" #[] c)::(it,oI)::aa) U H s)(hΦ:Φ 0 oI):Eu (Aw X.prog X.w) A (.builtin "max.loop" ⟨[.ref it,av,.ref S],kw⟩) R s:=by
 have ff:(L8 "max"++L8 ".loop":String) = "max.loop":=by decide
 have pS:∀(o:Ka),∀p∈X.pn++(it,o)::aa,p.1≠S:=λo p z=>by
  rcases Az.mp z with z|z
  .exact(hp p (Bn _ z)).2
  .rcases Ac.mp z with z|z
   .rw[z];exact Cz am
   .exact(hp p (Ab _ z)).2
 have pI:∀(o:Ka),∀p∈X.pn++(S,o)::aa,p.1≠it:=λo p z=>by
  rcases Az.mp z with z|z
  .exact(hp p (Bn _ z)).1
  .rcases Ac.mp z with z|z
   .rw[z];exact am
   .exact(hp p (Ab _ z)).1
 have gS:s.heap.get? S=some (Bj "list" #[] c):=(J.pin _ (Ab _ A6)).1;have gI:s.heap.get? it=some oI:=(J.pin _ (Ab _ (A7 _ A6))).1;have sx:Sx 0 s.heap:=src.to 0 oI [(S,Bj "list" #[] c),(it,oI)] H s (J4.refl H) J gI hΦ;refine codeAny_builtin Jh ?_;rw[Br Dr _]
 show Ah _ A.in1 (Ju (.ref S) >>= _) _ _ _;refine A0 (En gS rfl ?_);show Ah _ A.in1 (Gg (Hb (.ref it)) _ >>= _) _ _ _
 cases gV:xs with
 |nil=>
  obtain⟨x,d,rfl,hd⟩:=hE gV
  have sx':Sx xs.length s.heap:=by rw[gV];exact sx
  refine A0 (Eb (src.W.done _ _ _ sx' λh' dg bQ=>?_));have J1:a9 X ((S,Bj "list" #[] c)::aa) U H { s with heap:=h',toks:=dg }:=a9.gone (a9.swap J) (λc u ne e=>bQ c u (by simpa using ne) e) h0 (λx c e=>(hc x c e).1) (pI _);refine A0 (Fl (x6 ?_));exact hd _ (a9.tail J1)
 |cons v0 vr=>
  have hn:0<xs.length:=by rw[gV];exact Nat.succ_pos _
  refine A0 (Eb (src.W.item 0 _ _ _ hn sx λv h' dg hP fV bQ=>?_));obtain⟨x,hv,rx⟩:=hP;obtain⟨cE,gI',gL⟩:=src.of (0+1) h' fV;have J1:a9 X ((S,Bj "list" #[] c)::(it,cE)::aa) U H { s with heap:=h',toks:=dg }:=a9.swap (a9.repin' (a9.swap J) (λc u ne e=>bQ c u (by simpa using ne) e) gI' h0 (λx c e=>(hc x c e).1) (pI _) (λw=>src.nc _ _ w gL));have eI:kds[0]?=some kds[0]:=A4 ⋯
  have dU:Ah (Aw X.prog X.w) A.in1 (call av [v]) (EP X ((S,Bj "list" #[] c)::(it,cE)::aa) U λk H2=>J4 H H2/\e9 X.K (K0 Z H2) kds[0] k) (λ_ _=>False) { s with heap:=h',toks:=dg }:=turn 0 x v _ hv rx eI [(S,Bj "list" #[] c),(it,cE)] H _ (J4.refl H) J1
  have dH:Ah (Aw X.prog X.w) A.in1 (Gg (Hs [v] (call av [v])) λe=>do
    Gh S λ_=>#[]
    letGo ([v]++[].reverse) [e]
    throw e) (EP X ((S,Bj "list" #[] c)::(it,cE)::aa) U λk H2=>J4 H H2/\e9 X.K (K0 Z H2) kds[0] k) (λ_ _=>False) { s with heap:=h',toks:=dg }:=
   Eb (Ca (Cm dU (λ_ _ z=>z) λ_ _ z=>z.elim))
  have rest:∀(k:A9) (s2:Ae),EP X ((S,Bj "list" #[] c)::(it,cE)::aa) U (λk H2=>J4 H H2/\e9 X.K (K0 Z H2) kds[0] k) k s2 ->
    ∀(P:Na->Ae->Prop) (E':VP),(∀s3,Eu (Aw X.prog X.w) A (.builtin "max.loop" ⟨[.ref it,av,.ref S],kw⟩) R s3->P (.again (.builtin "max.loop" ⟨[.ref it,av,.ref S],kw⟩)) s3) ->
    Ah (Aw X.prog X.w) A.in1 (do
     Gh S λ_=>#[v,k]
     Ci (Kk (.builtin "max.loop" ⟨[.ref it,av,.ref S],kw⟩))) P E' s2:=λk s2 he P E' hP=>by
   obtain⟨kx,H2,J2,rk,aR,rd⟩:=he;have dJ:s2.heap.get? S=some (Bj "list" #[] c):=(J2.pin _ (Ab _ A6)).1;obtain⟨c2,aY⟩:∃c2,(s2.heap.update S (Cg λ_=>#[v,k])).get? S=some (Bj "list" #[v,k] c2):=⟨_,get?_update_seq dJ λ_=>#[v,k]⟩;refine A0 (Ee dJ rfl (x6 (hP _ ?_)));refine ϡ bi ab h0 h1 am hc hp src turn cI hR (xs.length-1) 1 0 H2 _ x v k kx _ c2 cE rfl hn rfl aR ?_ gL hv rx eI rd rk
   exact a9.repin' (t':=s2.toks) J2 (λc u ne e=>(Bd _ _ (Cz ne)).trans e) aY h1 (λx c e=>(hc x c e).2) (pS _) (λw z=>by cases z)
  rcases bi with⟨q,rfl⟩|⟨id,rfl⟩
  .show Ah _ A.in1 (Gg (Hs [v] (call (.ref q) [v])) _ >>= _) _ _ _;refine A0 (Cm dH (λk s2 he=>?_) λ_ _ z=>z.elim);refine rest k s2 he _ _ λs3 z=>?_;exact⟨plainId_quiet Dr _,z⟩
  .show Ah _ A.in1 (Gg (Hs [v] (call (.builtin id) [v])) _ >>= _) _ _ _;refine A0 (Cm dH (λk s2 he=>?_) λ_ _ z=>z.elim);refine rest k s2 he _ _ λs3 z=>?_;exact⟨plainId_quiet Dr _,z⟩
def Ĝ{it ax:As}{xs:List V}(hh:A.handled=none)(am:ax≠it):Nf X.prog X.w A.in1 it [it,ax] [it] xs.length (λi v=>∃x,xs[i]?=some x/\f9 x v) (λi h=>h.IsListIter it ax i/\∃its:List A9,Y4 xs its/\h.IsList ax its.toArray) where
 sub:=λb hb=>by simp at hb;simp[hb]
 frame:=λ_ _ _ st hk=>⟨st.1.at λo e=>hk it (by simp) o e,let ⟨its,rv,hl⟩:=st.2;⟨its,rv,hl.at λo e=>hk ax (by simp) o e⟩⟩
 item:=λi s Q E hi st hQ=>by
  obtain⟨dX,its,rv,hl⟩:=st;have l:=rv.length
  have bL:i<its.length:=by omega
  obtain⟨u,hu,ru⟩:=rv.get (A4 hi);refine wpAny_pyNext_list_item dX hl (x:=u) (by simpa using hu) λh' gw bz=>?_;exact hQ _ h' s.toks ⟨_,A4 hi,ru⟩ ⟨gw,its,rv,hl.extBut bz.extBut am⟩ λb o hb e=>bz.extBut b o (λh=>hb (by simp[h])) e
 done:=λs Q E st hQ=>by obtain⟨dX,its,rv,hl⟩:=st;have l:=rv.length;exact wpAny_pyNext_list_end (A:=A.in1) hh dX hl (by simp[l]) λh' fN=>hQ h' s.toks λb o hb e=>fN b o (λh=>hb (by simp[h])) e
 self:=λ_ _ _ _ st hQ=>wpAny_pyIter_listiter st.1 hQ
def YZ{it ax:As}{xs:List V}(hh:A.handled=none)(am:ax≠it):Nf X.prog X.w A.in1 it [it,ax] [it] xs.length (λi v=>∃x,xs[i]?=some x/\f9 x v) (λi h=>h.IsTupleIter it ax i/\∃its:List A9,Y4 xs its/\h.IsTuple ax its.toArray) where
 sub:=λb hb=>by simp at hb;simp[hb]
 frame:=λ_ _ _ st hk=>⟨st.1.at λo e=>hk it (by simp) o e,let ⟨its,rv,hl⟩:=st.2;⟨its,rv,hl.at λo e=>hk ax (by simp) o e⟩⟩
 item:=λi s Q E hi st hQ=>by
  obtain⟨dX,its,rv,hl⟩:=st;have l:=rv.length
  have bL:i<its.length:=by omega
  obtain⟨u,hu,ru⟩:=rv.get (A4 hi);refine Gc dX hl (x:=u) (by simpa using hu) λh' gw bz=>?_;exact hQ _ h' s.toks ⟨_,A4 hi,ru⟩ ⟨gw,its,rv,hl.extBut bz.extBut am⟩ λb o hb e=>bz.extBut b o (λh=>hb (by simp[h])) e
 done:=λs Q E st hQ=>by obtain⟨dX,its,rv,hl⟩:=st;have l:=rv.length;exact Ix (A:=A.in1) hh dX hl (by simp[l]) λh' fN=>hQ h' s.toks λb o hb e=>fN b o (λh=>hb (by simp[h])) e
 self:=λ_ _ _ _ st hQ=>wpAny_pyIter_tupleiter st.1 hQ
def KY{ax:As}{xs:List V}{av:A9}{kw:List (Ba×A9)}{kds:List D}{Z:List As}{gt:Nat->Nat->Bool}{R:Kz->Ae->Prop}{P:Na->Ae->Prop}(bi:(∃q,av = .ref q)\/∃id,av = .builtin id)(hh:A.handled=none)(I:a9 X aa U H s)(ab:kds.length=xs.length)(cZ:(∀(more:i6) (H1:Hp) (s1:Ae),J4 H H1->a9 X (more++aa) U H1 s1->∃its:List A9,Y4 xs its/\s1.heap.IsList ax its.toArray)\/(∀(more:i6) (H1:Hp) (s1:Ae),J4 H H1->a9 X (more++aa) U H1 s1->∃its:List A9,Y4 xs its/\s1.heap.IsTuple ax its.toArray))(turn:uD X aa U H A.in1 Z av xs kds)(cI:qU X aa U H A.in1 Z kds gt)(hR:∀b x v H1 s1,xs[b]?=some x->f9 x v->b=W7 gt (xs.length-1) 1 0->J4 H H1->a9 X aa U H1 s1->R (.ok (.ret v)) s1)(hE:xs=[]->∃x d,kw=[(x,d)]/\∀s1,a9 X aa U H s1->R (.ok (.ret d)) s1)(hP:∀c' s',c'.quiet=true->Eu (Aw X.prog X.w) A c' R s'->P (.again c') s'):
  Ah (Aw X.prog X.w) A.in1 (do
   let it <-Nq (.ref ax)
   let l <-N7 []
   Ci (Kk (.builtin "max.loop" ⟨[it,av,l],kw⟩))) P E s:=by
 have axlt:ax<s.heap.objs.size:=by
  rcases cZ with h|h
  .obtain⟨_,_,o,e,_⟩:=h [] H s (J4.refl H) I;exact Aj e
  .obtain⟨_,_,o,e,_⟩:=h [] H s (J4.refl H) I;exact Aj e
 have iw:∀y c',X.env.cells.lookup y=some c'->c'<s.heap.objs.size:=λy c' z=>by obtain⟨v,o,ho,_⟩:=I.cell y c' z;exact Aj ho
 have jc:∀w∈X.pn++aa,w.1<s.heap.objs.size:=λw z=>Aj (I.pin w z).1
 have go:∀(oI:Ka) (Φ:Nat->Ka->Prop) (Sx:Nat->Ch->Prop),(∀v,oI.data≠.cell v)->oI.isFreed=false->Φ 0 oI->NK X aa U H A.in1 s.heap.objs.size ax xs Φ Sx ->
   Ah (Aw X.prog X.w) A.in1 (do
    let l <-N7 []
    Ci (Kk (.builtin "max.loop" ⟨[.ref s.heap.objs.size,av,l],kw⟩))) P E { s with heap:=s.heap.push oI }:=λoI Φ Sx hnc bK hΦ src=>by
  have z1:(s.heap.push oI).objs.size=s.heap.objs.size+1:=Dx ..;refine A0 (Ig (x6 (hP _ _ (plainId_quiet Dr _) ?_)) (Bh _));show Eu _ _ (.builtin "max.loop" ⟨[.ref s.heap.objs.size,av,.ref (s.heap.push oI).objs.size],kw⟩) R { s with heap:=(s.heap.push oI).push (Bj "list" #[] 0) };rw[z1]
  have I1:a9 X ((s.heap.objs.size,oI)::aa) U H { s with heap:=s.heap.push oI,toks:=s.toks }:=a9.pin1 (I.kept (h':=s.heap.push oI) (t':=s.toks) λb u e=>A8 _ e) (Ak _ bK) (I.hok.fresh (Ad _)) (Cw I.lt) (I.nofs (Ad _)) hnc
  have I2:a9 X ((s.heap.objs.size+1,Bj "list" #[] 0)::(s.heap.objs.size,oI)::aa) U H { s with heap:=(s.heap.push oI).push (Bj "list" #[] 0),toks:=s.toks }:=by have g:=Ak (s.heap.push oI) (o:=Bj "list" #[] 0) rfl;rw[z1]at g;exact a9.pin1 (I1.kept (h':=(s.heap.push oI).push (Bj "list" #[] 0)) (t':=s.toks) λb u e=>A8 _ e) g (I.hok.fresh (E9 _)) (Cw (C5 I.lt)) (I.nofs (E9 _)) (λv z=>by cases z)
  exact Yq (S:=s.heap.objs.size+1) bi ab I.sz (Nat.le_succ_of_le I.sz) (Cw (E4 _)) (λx c e=>⟨An (iw x c e),An (C5 (iw x c e))⟩)
   (λp z=>⟨An (jc p z),An (C5 (jc p z))⟩) src turn cI hR hE I2 hΦ
 have gY:ax≠s.heap.objs.size:=An axlt;rcases cZ with hs|hs
 .obtain⟨its,rv,hl⟩:=hs [] H s (J4.refl H) I;refine A0 (Hd hl ?_)
  refine go { cls:=.type "list_iterator",data:=.fields #[.ref ax,.int 0 0] } (λi o=>o.cls = .type "list_iterator"/\o.data = .fields #[.ref ax,.int i 0]) (λi h=>h.IsListIter s.heap.objs.size ax i/\∃its:List A9,Y4 xs its/\h.IsList ax its.toArray) (λv z=>by cases z) rfl ⟨rfl,rfl⟩
   ⟨Ĝ hh gY,λi o more H1 s1 sm J g hΦ=>⟨⟨o,g,hΦ.1,hΦ.2⟩,hs more H1 s1 sm J⟩,λi h z=>let ⟨o,g,a,b⟩:=z.1;⟨o,g,a,b⟩,λi o v hΦ z=>by rw[hΦ.2]at z;cases z⟩
 .obtain⟨its,rv,hl⟩:=hs [] H s (J4.refl H) I;refine A0 (Ev hl ?_)
  refine go { cls:=.type "tuple_iterator",data:=.fields #[.ref ax,.int 0 0] } (λi o=>o.cls = .type "tuple_iterator"/\o.data = .fields #[.ref ax,.int i 0]) (λi h=>h.IsTupleIter s.heap.objs.size ax i/\∃its:List A9,Y4 xs its/\h.IsTuple ax its.toArray) (λv z=>by cases z) rfl ⟨rfl,rfl⟩
   ⟨YZ hh gY,λi o more H1 s1 sm J g hΦ=>⟨⟨o,g,hΦ.1,hΦ.2⟩,hs more H1 s1 sm J⟩,λi h z=>let ⟨o,g,a,b⟩:=z.1;⟨o,g,a,b⟩,λi o v hΦ z=>by rw[hΦ.2]at z;cases z⟩
def w03(a v:A9):Ia "max" ⟨[a],[(Bl "key",v)]⟩:=by unfold Ia;kernel_rfl
def Zu(a v d:A9):Ia "max" ⟨[a],[(Bl "key",v),(Bl "default",d)]⟩:=by unfold Ia;kernel_rfl
def Zt(a b v:A9):Ia "max" ⟨[a,b],[(Bl "key",v)]⟩:=by unfold Ia;kernel_rfl
variable{ax:As}{xs:List V}{av:A9}{kds:List D}{Z:List As}{gt:Nat->Nat->Bool}{Q:VP}
def Pf(bi:(∃q,av = .ref q)\/∃id,av = .builtin id)(hh:A.handled=none)(I:a9 X aa U H s)(ab:kds.length=xs.length)(cZ:(∀(more:i6) (H1:Hp) (s1:Ae),J4 H H1->a9 X (more++aa) U H1 s1->∃its:List A9,Y4 xs its/\s1.heap.IsList ax its.toArray)\/(∀(more:i6) (H1:Hp) (s1:Ae),J4 H H1->a9 X (more++aa) U H1 s1->∃its:List A9,Y4 xs its/\s1.heap.IsTuple ax its.toArray))(turn:uD X aa U H A.in1 Z av xs kds)(cI:qU X aa U H A.in1 Z kds gt)(hn:xs≠[])(hR:∀b x v H1 s1,xs[b]?=some x->f9 x v->b=W7 gt (xs.length-1) 1 0->J4 H H1->a9 X aa U H1 s1->Q v s1):
  Ah (Aw X.prog X.w) A (call (.builtin "max") [.ref ax] [(Bl "key",av)]) Q E s:=by
 have ff:(L8 "max"++L8 ".loop":String) = "max.loop":=by decide
 refine kmk_tree Me Lm Ln (w03 _ _) ?_
 have fin:=KY (E:=E) (P:=λfin s'=>match fin with
   | .done f=>(match (Ox f:Kz) with|.ok (.ret v)=>Q v s'|.ok _=>False|.error e=>E e s')
   | .again c'=>c'.quiet=true/\Eu (Aw X.prog X.w) A c' (λr s'=>match r with|.ok (.ret v)=>Q v s'|.ok _=>False|.error e=>E e s') s') (kw:=[]) bi hh I ab cZ turn cI (λb x v H1 s1 a0 a1 a2 a3 a4=>hR b x v H1 s1 a0 a1 a2 a3 a4) (λz=>u3 z hn) (λc' s' h1 h2=>⟨h1,h2⟩)
 rcases bi with⟨q,rfl⟩|⟨id,rfl⟩
 .show Ah _ A.in1 (C8 "max" ["key","default"] 0 ⟨[],[(Bl "key",.ref q)]⟩ >>= _) _ _ s;refine A0 (Cn (show C8 "max" ["key","default"] 0 ⟨[],[(Bl "key",.ref q)]⟩=Ci [some (.ref q),none] from rfl) ?_);refine A0 (x6 ?_);exact fin
 .show Ah _ A.in1 (C8 "max" ["key","default"] 0 ⟨[],[(Bl "key",.builtin id)]⟩ >>= _) _ _ s;refine A0 (Cn (show C8 "max" ["key","default"] 0 ⟨[],[(Bl "key",.builtin id)]⟩=Ci [some (.builtin id),none] from rfl) ?_);refine A0 (x6 ?_);exact fin
def ZD{id:String}{d:A9}(hh:A.handled=none)(I:a9 X aa U H s)(ab:kds.length=xs.length)(cZ:(∀(more:i6) (H1:Hp) (s1:Ae),J4 H H1->a9 X (more++aa) U H1 s1->∃its:List A9,Y4 xs its/\s1.heap.IsList ax its.toArray)\/(∀(more:i6) (H1:Hp) (s1:Ae),J4 H H1->a9 X (more++aa) U H1 s1->∃its:List A9,Y4 xs its/\s1.heap.IsTuple ax its.toArray))(turn:uD X aa U H A.in1 Z (.builtin id) xs kds)(cI:qU X aa U H A.in1 Z kds gt)(hE:xs=[]->∀s1,a9 X aa U H s1->Q d s1)(hR:∀b x v H1 s1,xs[b]?=some x->f9 x v->b=W7 gt (xs.length-1) 1 0->J4 H H1->a9 X aa U H1 s1->Q v s1):
  Ah (Aw X.prog X.w) A (call (.builtin "max") [.ref ax] [(Bl "key",.builtin id),(Bl "default",d)]) Q E s:=by
 refine kmk_tree Me Lm Ln (Zu _ _ _) ?_
 have fin:=KY (E:=E) (P:=λfin s'=>match fin with
   | .done f=>(match (Ox f:Kz) with|.ok (.ret v)=>Q v s'|.ok _=>False|.error e=>E e s')
   | .again c'=>c'.quiet=true/\Eu (Aw X.prog X.w) A c' (λr s'=>match r with|.ok (.ret v)=>Q v s'|.ok _=>False|.error e=>E e s') s') (kw:=[("default",d)]) (.inr ⟨id,rfl⟩) hh I ab cZ turn cI (λb x v H1 s1 a0 a1 a2 a3 a4=>hR b x v H1 s1 a0 a1 a2 a3 a4) (λz=>⟨_,d,rfl,λs1 J=>hE z s1 J⟩) (λc' s' h1 h2=>⟨h1,h2⟩)
 show Ah _ A.in1 (C8 "max" ["key","default"] 0 ⟨[],[(Bl "key",.builtin id),(Bl "default",d)]⟩ >>= _) _ _ s;refine A0 (Cn (show C8 "max" ["key","default"] 0 ⟨[],[(Bl "key",.builtin id),(Bl "default",d)]⟩=Ci [some (.builtin id),some d] from rfl) ?_);refine A0 (x6 ?_);exact fin
def ZC{id:String}{x y:V}{u v:A9}(ru:f9 x u)(rv:f9 y v)(hh:A.handled=none)(I:a9 X aa U H s)(ab:kds.length=2)(turn:∀(o:Ka) (t:Nat),uD X ((s.heap.objs.size,o)::aa) U H A.in1 Z (.builtin id) [x,y] kds)(cI:∀(o:Ka),qU X ((s.heap.objs.size,o)::aa) U H A.in1 Z kds gt)(hR:∀w H1 s1,f9 (if gt 1 0=true then y else x) w->J4 H H1->a9 X aa U H1 s1->Q w s1):
  Ah (Aw X.prog X.w) A (call (.builtin "max") [u,v] [(Bl "key",.builtin id)]) Q E s:=by
 refine kmk_tree Me Lm Ln (Zt _ _ _) ?_;show Ah _ A.in1 (C8 "max" ["key","default"] 0 ⟨[],[(Bl "key",.builtin id)]⟩ >>= _) _ _ s;refine A0 (Cn (show C8 "max" ["key","default"] 0 ⟨[],[(Bl "key",.builtin id)]⟩=Ci [some (.builtin id),none] from rfl) ?_);show Ah _ A.in1 (O0 [u,v] >>= _) _ _ s
 refine A0 (Bc ?_)
 have I1:a9 X ((s.heap.objs.size,{ cls:=C4 "tuple",data:=Jc #[u,v] })::aa) U H { s with heap:=s.heap.push { cls:=C4 "tuple",data:=Jc #[u,v] },toks:=s.toks }:=a9.pin1 (I.kept (t':=s.toks) λb u e=>A8 _ e) (Ak _ rfl) (I.hok.fresh (Ad _)) (Cw I.lt) (I.nofs (Ad _)) (λv z=>by cases z)
 exact KY (E:=E) (ax:=s.heap.objs.size) (xs:=[x,y]) (P:=λfin s'=>match fin with
   | .done f=>(match (Ox f:Kz) with|.ok (.ret v)=>Q v s'|.ok _=>False|.error e=>E e s')
   | .again c'=>c'.quiet=true/\Eu (Aw X.prog X.w) A c' (λr s'=>match r with|.ok (.ret v)=>Q v s'|.ok _=>False|.error e=>E e s') s') (kw:=[]) (.inr ⟨id,rfl⟩) hh I1 ab
  (.inr λmore H1 s1 sm J=>⟨[u,v],.cons ru (.cons rv .nil),_,(J.pin (s.heap.objs.size,{ cls:=C4 "tuple",data:=Jc #[u,v] }) (Ab _ (Ab _ A6))).1,rfl,_,rfl⟩) (turn _ 0) (cI _) (λb z w H1 s1 a1 a0 a2 a3 a4=>by
   have e:b=if gt 1 0=true then 1 else 0:=a2
   refine hR w H1 s1 ?_ a3 (a9.tail a4)
   cases hg:gt 1 0 with
   |true=>rw[hg,y6 rfl]at e;rw[y6 rfl];subst e;cases a1;exact a0
   |false=>
    rw[hg,y8 Ay]at e;rw[y8 Ay];subst e;cases a1
    exact a0) (λz=>by cases z) (λc' s' h1 h2=>⟨h1,h2⟩)
end
def BE:D->Option Int
 | .tup xs=>some xs.length
 | .lst xs=>some xs.length
 |_=>none
def pL:List D->Option (List Int)
 | []=>some []
 |d::ds=>match BE d with|some n=>(match pL ds with|some ns=>some (n::ns)|none=>none)|none=>none
theorem Px:∀{ds:List D} {ns:List Int},pL ds=some ns->ns.length=ds.length
 | [],ns,e=>by cases e;rfl
 |d::ds,ns,e=>by
  unfold pL at e;split at e
  .split at e
   .rename_i h;cases e;rw[Au,Au,Px h]
   .cases e
  .cases e
theorem SJ:∀{ds:List D} {ns:List Int} {i:Nat} {d:D} {n:Int},pL ds=some ns->ds[i]?=some d->ns[i]?=some n->BE d=some n
 | [],_,i,d,n,_,h,_=>by simp at h
 |d'::ds,ns,i,d,n,e,h1,h2=>by
  unfold pL at e;split at e
  .rename_i m hm;split at e
   .rename_i bH h;cases e
    cases i with
    |zero=>simp at h1 h2;subst h1;subst h2;exact hm
    |succ i=>exact SJ (i:=i) h (by simpa using h1) (by simpa using h2)
   .cases e
  .cases e
def rT(ns:List Int)(i j:Nat):Bool:=decide (ns.getD j 0<ns.getD i 0)
def vX(nss:List (List Int))(i j:Nat):Bool:=HT.lexLt (nss.getD j []) (nss.getD i [])
def rA(gt:Nat->Nat->Bool)(ds:List D):Option D:=ds[W7 gt (ds.length-1) 1 0]?
section
variable{X:Cx}{aa:i6}{U:St}{H:Hp}{s:Ae}{A:Bz}{Z:List As}{ds:List D}{xs:List V}
theorem SB{ns:List Int}(rr:J3 X.K (K0 Z H) ds xs)(hn:pL ds=some ns):uD X aa U H A Z (.builtin "len") xs (ns.map D.int):=by
 intro i x u d hx ru hd more H1 s1 sm I;rw[Ao]at hd
 cases jo:ns[i]? with
 |none=>rw[jo]at hd;cases hd
 |some n=>
  rw[jo]at hd;cases hd;have rr1:=rr.mono (x9 sm);obtain⟨dd,eC,rd⟩:=rr1.at hx;have hl:=SJ hn eC jo;have h63:=xC
  cases dd with
  |tup es=>have e:(es.length:Int)=n:=Bi hl;obtain⟨a,ys,rfl,hq,r2⟩:=j5.mp rd;cases ru;obtain⟨its,r',pl,hz⟩:=I.tuple (j9 v4 hq);have ab:=r'.length;have dS:=r2.length;exact len_tuple pl (by simp only[Af]<;>omega) ⟨.int n,H1,I.tok _,⟨s1.toks+1,by rw[Af,<-ab,<-dS,e]⟩,J4.refl _,v7.mpr rfl⟩
  |lst es=>have e:(es.length:Int)=n:=Bi hl;obtain⟨a,ys,rfl,hq,r2⟩:=K6.mp rd;cases ru;obtain⟨its,r',pl,hz⟩:=I.list (v4.seq hq);have ab:=r'.length;have dS:=r2.length;exact Calls.call_len_list pl.isList (by simp only[Af]<;>omega) ⟨.int n,H1,I.tok _,⟨s1.toks+1,by rw[Af,<-ab,<-dS,e]⟩,J4.refl _,v7.mpr rfl⟩
  |non=>cases hl
  |bl _=>cases hl
  |int _=>cases hl
  |str _=>cases hl
  |dct _ _=>cases hl
theorem GS(ns:List Int):qU X aa U H A Z (ns.map D.int) (rT ns):=by
 intro more H1 s1 sm I i j di dj x y u v hi hj rx ry ru rv Q E q;rw[Ao]at hi hj
 cases ei:ns[i]? with
 |none=>rw[ei]at hi;cases hi
 |some a=>
  cases ej:ns[j]? with
  |none=>rw[ej]at hj;cases hj
  |some b=>rw[ei]at hi;rw[ej]at hj;cases hi;cases hj;rw[v7]at rx ry;subst rx;subst ry;obtain⟨t,rfl⟩:=ru;obtain⟨t',rfl⟩:=rv;refine Ta A s1 a t b t' X.prog X.w E Q ?_;unfold rT at q;rw[K5 ei,K5 ej]at q;exact q
theorem ZY(nss:List (List Int))(hu:A.units<D8):qU X aa U H A Z (nss.map λns=>D.tup (ns.map D.int)) (vX nss):=by
 intro more H1 s1 sm I i j di dj x y u v hi hj rx ry ru rv Q E q;rw[Ao]at hi hj
 cases ei:nss[i]? with
 |none=>rw[ei]at hi;cases hi
 |some a=>
  cases ej:nss[j]? with
  |none=>rw[ej]at hj;cases hj
  |some b=>rw[ei]at hi;rw[ej]at hj;cases hi;cases hj;obtain⟨p1,o1,i1,n1,rfl,g1,c1,d1,ia1⟩:=tM I (rx.mono v4) ru;obtain⟨p2,o2,i2,n2,rfl,g2,c2,d2,ia2⟩:=tM I (ry.mono v4) rv;unfold vX at q;rw[K5 ei,K5 ej]at q;exact Qg ⟨o1,g1,c1,n1,d1⟩ ⟨o2,g2,c2,n2,d2⟩ ia1 ia2 hu q
def IQ(fQ:i7 X.K H a xs\/i8 X.K (K0 Z H) a xs):(∀(more:i6) (H1:Hp) (s1:Ae),J4 H H1->a9 X (more++aa) U H1 s1->∃its:List A9,Y4 xs its/\s1.heap.IsList a its.toArray) \/
  (∀(more:i6) (H1:Hp) (s1:Ae),J4 H H1->a9 X (more++aa) U H1 s1->∃its:List A9,Y4 xs its/\s1.heap.IsTuple a its.toArray):=by
 rcases fQ with z|z
 .exact .inl λmore H1 s1 sm I=>let ⟨its,rv,pl,_⟩:=I.list (sm.seq z);⟨its,rv,pl.isList⟩
 .exact .inr λmore H1 s1 sm I=>let ⟨its,rv,pl,_⟩:=I.tuple (j9 (v4.trans sm) z);⟨its,rv,pl⟩
end
section
variable{X:Cx}{e body dflt ea eb:Expr}{params:N6}{scope:Scope}{lp kp kp2 p pos:Hi}{fa:EL}{fb fd f1 f2:ED}
def xD(ds:List D)(d0:D):Option D:=match pL ds with|some ns=>(match ds with|[]=>some d0|_::_=>rA (rT ns) ds)|none=>none
def AD(fa:EL)(fd:ED):ED:=λY=>match fa Y with|some ds=>(match fd Y with|some d0=>xD ds d0|none=>none)|none=>none
def QA(hc:X.calm=true)(hm:X.mg "max" = none)(hml:X.mg "len" = none)(ha:ZQ X e fa)(hd:ZE X dflt fd)(hg:Gl X "max":=by rfl)(jp:Gl X "len":=by rfl)(hv:Db "max" = some (.builtin "max"):=by decide +kernel)(hvl:Db "len" = some (.builtin "len"):=by decide +kernel)(hs:J0 e=true:=by rfl): ZE X (.Call (.Name "max" p) [e] [⟨some "key",.Name "len" lp,kp⟩,⟨some "default",dflt,kp2⟩] pos) (AD fa fd):=by
 have ha:=ha.h;have hd:=hd.h;refine⟨?_⟩;intro aa s U H Q I h;obtain⟨Y,d,B,H0,V0,Z,e1,r,q⟩:=h;unfold AD at e1;split at e1
 .rename_i ds aF;split at e1
  .rename_i d0 ed0;refine Ex (pN I hg hm hv ?_ ∅ ∅)
   have cn:F0 pos (Bt [e] X.env)=(false,Ec e X.env)::F0 pos (Bt [] X.env):=by rw[(w9 hs)];rfl
   refine G9 ?_ cn (by rw[cn];rfl)
   refine jK (J7 ha Y5 (w9 hs) pos aa s U H (λvs H1=>∃a xs,vs=[.ref a]/\J4 H H1/\(i7 X.K H1 a xs\/i8 X.K (K0 Z H1) a xs)/\J3 X.K (K0 Z H1) ds xs) I ⟨Y,ds,B,H0,V0,Z,aF,r,λa xs H1 s1 hq rr=>⟨a,xs,rfl,s1,hq,rr⟩⟩) λus s1 vs H1 I1 fP ⟨a,xs,eJ,cK,fQ,rr⟩=>?_;subst eJ;obtain⟨u,rfl,ru⟩:=l7 fP;cases ru;have R1:=r.mono cK;show Ah _ _ (evalAll ((do let v <-Ec (.Name "len" lp) X.env;Lf pos;Ci v)::(do let v <-Ec dflt X.env;Lf pos;Ci v)::[])) _ _ s1
   refine Gq (A0 (pN I1 jp hml hvl (A0 (Gy (x6 ?_))) ∅ ∅));refine Gq (A0 (jK (hd aa s1 U H1 (λv H2=>J4 H1 H2/\e9 X.K (K0 Z H2) d0 v) I1 ⟨Y,d0,B,H0,V0,Z,ed0,R1,λv H2 s2 r2=>⟨s2,r2⟩⟩) λw s2 v0 H2 I2 rw0 ⟨aR,rd0⟩=>A0 (Gy (x6 (Jg ?_)))));show Ah _ _ (call (.builtin "max") [.ref a] [(Bl "key",.builtin "len"),(Bl "default",w)]) _ _ s2
   have ib:=rr.mono (x9 aR);have eX:i7 X.K H2 a xs\/i8 X.K (K0 Z H2) a xs:=fQ.imp aR.seq (j9 (x9 aR));unfold xD at e1;split at e1
   .rename_i ns hn;have l1:=rr.length;have l2:=Px hn;refine ZD (I2.ok.hd hc) I2 (by rw[A3];omega) (IQ eX) (SB ib hn) (GS ns) (λhx s3 I3=>?_) (λb x v H3 s3 hb rb bv bo I3=>?_)
    .have:ds=[]:=by rw[hx]at l1;exact List.length_eq_zero_iff.mp l1
     subst this;cases e1;exact⟨v0,H2,I3,rw0,q v0 H2 (cK.trans aR) rd0⟩
    .have rr3:=ib.mono (x9 bo);obtain⟨dd,eC,rd⟩:=rr3.at hb
     have:dd=d:=by
      have am:ds≠[]:=λz=>by rw[z]at eC;simp at eC
      split at e1
      .exact u3 rfl am
      .unfold rA at e1;rw[l1,<-bv,eC]at e1;exact Bi e1
     subst this;exact⟨x,H3,I3,rb,q x H3 (cK.trans (aR.trans bo)) rd⟩
   .cases e1
  .cases e1
 .cases e1
def wH(a b:D):Option D:=match BE a with|some n=>(match BE b with|some m=>some (if n<m then b else a)|none=>none)|none=>none
def V9(hc:X.calm=true)(hm:X.mg "max" = none)(hml:X.mg "len" = none)(ha:ZE X ea f1)(hb:ZE X eb f2)(hg:Gl X "max":=by rfl)(jp:Gl X "len":=by rfl)(hv:Db "max" = some (.builtin "max"):=by decide +kernel)(hvl:Db "len" = some (.builtin "len"):=by decide +kernel)(hs:J0 ea=true:=by rfl)(bE:J0 eb=true:=by rfl): ZE X (.Call (.Name "max" p) [ea,eb] [⟨some "key",.Name "len" lp,kp⟩] pos) (d2 wH f1 f2):=by
 have ha:=ha.h;have hb:=hb.h;refine⟨?_⟩;intro aa s U H Q I h;obtain⟨Y,d,B,H0,V0,Z,e1,r,q⟩:=h;obtain⟨x0,y0,ex,ey,e1⟩:=Re e1;refine Ex (pN I hg hm hv ?_ ∅ ∅)
 have cn:F0 pos (Bt [ea,eb] X.env)=(false,Ec ea X.env)::F0 pos (Bt [eb] X.env):=by rw[(w9 hs)];rfl
 have hst2:(F0 pos (Bt [eb] X.env)).any (·.1)=false:=by rw[(w9 bE)];rfl
 refine G9 ?_ cn (by rw[cn,Fc,hst2];rfl)
 refine jK (J7 ha (J7 hb Y5 (w9 bE)) (w9 hs) pos aa s U H (λvs H1=>∃x y,vs=[x,y]/\J4 H H1/\e9 X.K (K0 Z H1) x0 x/\e9 X.K (K0 Z H1) y0 y) I
  ⟨Y,x0,B,H0,V0,Z,ex,r,λx H1 s1 rx=>⟨Y,y0,B,H0,V0,Z,ey,r.mono s1,λy H2 s2 ry=>⟨x,y,rfl,s1.trans s2,rx.mono (x9 s2),ry⟩⟩⟩) λus s1 vs H1 I1 fP ⟨x,y,eJ,cK,rx,ry⟩=>?_
 subst eJ
 obtain⟨u,v,rfl,ru,rv⟩:∃u v,us=[u,v]/\f9 x u/\f9 y v:=by
  cases fP with
  |cons a b=>
   cases b with
   |cons c d=>cases d;exact⟨_,_,rfl,a,c⟩
 show Ah _ _ (evalAll ((do let v <-Ec (.Name "len" lp) X.env;Lf pos;Ci v)::[])) _ _ s1
 refine Gq (A0 (pN I1 jp hml hvl (A0 (Gy (x6 (Jg ?_)))) ∅ ∅));show Ah _ _ (call (.builtin "max") [u,v] [(Bl "key",.builtin "len")]) _ _ s1;unfold wH at e1;split at e1
 .rename_i n hn;split at e1
  .rename_i m hm'
   have hl:pL [x0,y0]=some [n,m]:=by unfold pL;rw[hn];right;unfold pL;rw[hm'];rfl
   have rr:J3 X.K (K0 Z H1) [x0,y0] [x,y]:=J3.cons rx (J3.one ry);refine ZC (kds:=[D.int n,D.int m]) (gt:=rT [n,m]) ru rv (I1.ok.hd hc) I1 rfl (λo t=>SB rr hl) (λo=>GS [n,m]) (λw H2 s2 rw' aR I2=>?_);have g:rT [n,m] 1 0=decide (n<m):=rfl;rw[g]at rw';by_cases dG:n<m
   .rw[y6 dG]at e1;cases e1;rw[Y1 dG,y6 rfl]at rw';exact⟨y,H2,I2,rw',q y H2 (cK.trans aR) (ry.mono (x9 aR))⟩
   .rw[y8 dG]at e1;cases e1;rw[W4 dG,y8 Ay]at rw';exact⟨x,H2,I2,rw',q x H2 (cK.trans aR) (rx.mono (x9 aR))⟩
  .cases e1
 .cases e1
def FS(ks ds:List D):Option D:=match ds with
 | []=>none
 |_::_=>(match lJ ks with
  |some ns=>rA (rT ns) ds
  |none=>(match mP ks with|some nss=>rA (vX nss) ds|none=>none))
def EA(cap:List (Option Nat))(fa:EL)(fb:ED):ED:=λY=>match fa Y with
 |some ds=>(match pB fb (mD cap Y) ds with|some ks=>FS ks ds|none=>none)
 |none=>none
def ğ{x pn:Ba}{k:Nat}(N:List Ba)(cap:List (Option Nat))(hc:X.calm=true)(hm:X.mg "max" = none)(bm:pF X.K X.mg)(hl:qI X.K X.env.code x=true)(hr:d8 (k+3) X.A)(ha:ZQ X e fa)(he:∀A' cl f cd s H,d8 k (pK X A' N (X.env.qual++"<lambda>") scope cl f cd s H).A->ZE (pK X A' N (X.env.qual++"<lambda>") scope cl f cd s H) body fb)(hok:xW scope X.env.scope N cap X.N=true:=by rfl)(h0:cap[0]?=some none:=by rfl)(hp:N[0]?=some pn:=by rfl)(au:scope.names.lookup pn=some .local:=by rfl)(dz:scope.isCoroutine=false:=by rfl)(cb:scope.isGenerator=false:=by rfl)(hq:X.env.qual=x++".<locals>.":=by rfl)(bT:Mp params X.env=([],[]):=by rfl)(hb:∀(cl:List (Ba×As)) (az pm:A9) (c:As) (ct u:A9),Gu (Je "<lambda>" (X.env.qual++"<lambda>") params (.expr body) scope cl .none az pm (.ref c) ct) ⟨[u],[]⟩=Ci [(pn,u)]:=by intros;rfl)(hg:Gl X "max":=by rfl)(hv:Db "max" = some (.builtin "max"):=by decide +kernel)(hs:J0 e=true:=by rfl): ZE X (.Call (.Name "max" p) [e] [⟨some "key",.Lambda params body scope lp,kp⟩] pos) (EA cap fa fb):=by
 have ha:=ha.h;have he:=λA' cl f cd s H hr=>(he A' cl f cd s H hr).h;refine⟨?_⟩;intro aa s U H Q I h;have C:=Sg hok;obtain⟨Y,d,B,H0,V0,Z,e1,r,q⟩:=h;unfold EA at e1;split at e1
 .rename_i ds aF;split at e1
  .rename_i ks jB;refine Ex (pN I hg hm hv ?_ ∅ ∅)
   have cn:F0 pos (Bt [e] X.env)=(false,Ec e X.env)::F0 pos (Bt [] X.env):=by rw[(w9 hs)];rfl
   refine G9 ?_ cn (by rw[cn];rfl)
   refine jK (J7 ha Y5 (w9 hs) pos aa s U H (λvs H1=>∃a xs,vs=[.ref a]/\J4 H H1/\(i7 X.K H1 a xs\/i8 X.K (K0 Z H1) a xs)/\J3 X.K (K0 Z H1) ds xs) I ⟨Y,ds,B,H0,V0,Z,aF,r,λa xs H1 s1 hq rr=>⟨a,xs,rfl,s1,hq,rr⟩⟩) λus s1 vs H1 I1 fP ⟨a,xs,eJ,cK,fQ,rr⟩=>?_;subst eJ;obtain⟨u,rfl,ru⟩:=l7 fP;cases ru;have R1:=r.mono cK;obtain⟨cl,ar,hc1,aY⟩:=KJ (env:=X.env) (scope:=scope) λy hy hf=>I1.ok.has y.1 (C.out y hy hf)
   show Ah _ _ (evalAll ((do let v <-Ec (.Lambda params body scope lp) X.env;Lf pos;Ci v)::[])) _ _ s1
   refine Gq (A0 (Uq I1 R1.tb bm hl hq ar bT λf c oc ws t az pm ct s2 H2 aR I2 hfc hd hws=>A0 (Gy (x6 (Jg ?_)))));show Ah _ _ (call (.builtin "max") [.ref a] [(Bl "key",.ref f)]) _ _ s2;have ib:=rr.mono (x9 aR);have eX:i7 X.K H2 a xs\/i8 X.K (K0 Z H2) a xs:=fQ.imp aR.seq (j9 (x9 aR));have l1:=rr.length;have l3:=JF jB
   generalize dA:zV (X.env.qual++"<lambda>") params body scope cl az pm c ct=fo at I2;have gH:d8 (k+2) X.A.in1:=d8.in1 hr
   have turn:uD X ((f,fo)::aa) U H2 X.A.in1 Z (.ref f) xs ks:=λi x u d hx ru gq more H3 s3 bo I4=>by
    obtain⟨di,eA,rd⟩:=(ib.mono (x9 bo)).at hx;have iE:s3.heap.get? f=some fo:=(I4.pin (f,fo) (Ab _ (Ab _ A6))).1;rw[<-dA]at iE;obtain⟨uu,fK⟩:=hfc
    exact SD (te:=tD X.K fb) I4 I.ok.frames (gH.mono (Bh _)) iE ⟨uu,bo _ _ fK⟩ hd hws C.kind C.cell dz cb hc1 aY C.fre
     (λi j z=>let ⟨y,n1,n2,n3⟩:=C.sel i j z;⟨y,n1,n2,n3,C.out _ (Cc n3) rfl⟩) C.len h0 hp au ru (hb cl az pm c ct u) (he _ _ _ _ _ _ ((gH.mono (E9 _)).deeper _))
     ⟨(mD cap Y).set 0 (some (.sh di)),d,B,H0,V0,Z,IJ jB eA gq,((AN C.inj (r.mono (cK.trans (aR.trans bo)))).set rd),λw H4 gQ rw'=>⟨gQ,rw'⟩⟩
   have fin:∀{gt:Nat->Nat->Bool},rA gt ds=some d->∀b x v H3 s3,xs[b]?=some x->f9 x v->b=W7 gt (xs.length-1) 1 0->J4 H2 H3->a9 X ((f,fo)::aa) U H3 s3->EP X aa U Q v s3:=λ{gt} fE b x v H3 s3 aW rb bv bo I3=>by obtain⟨dd,eC,rd⟩:=(ib.mono (x9 bo)).at aW;unfold rA at fE;rw[l1,<-bv,eC]at fE;cases fE;exact⟨x,H3,a9.tail I3,rb,q x H3 (cK.trans (aR.trans bo)) rd⟩
   unfold FS at e1;split at e1
   .cases e1
   .rename_i dh dr
    have am:xs≠[]:=λz=>by rw[z]at l1;simp at l1
    split at e1
    .rename_i ns hn;have bC:=rF hn
     have gr:qU X ((f,fo)::aa) U H2 X.A.in1 Z ks (rT ns):=by rw[bC];exact GS ns
     exact Pf (.inl ⟨f,rfl⟩) (I2.ok.hd hc) I2 ⋯ (IQ eX) turn gr am (fin e1)
    .split at e1
     .rename_i nss hn;obtain⟨bC,_⟩:=DP hn
      have gr:qU X ((f,fo)::aa) U H2 X.A.in1 Z ks (vX nss):=by rw[bC];exact ZY nss gH.units0
      exact Pf (.inl ⟨f,rfl⟩) (I2.ok.hd hc) I2 ⋯ (IQ eX) turn gr am (fin e1)
     .cases e1
  .cases e1
 .cases e1
end
end L3
namespace L3
open PySem PySem.Spec PyProof.Rows L2
abbrev pE(xs:Array Nat):Prop:=xs.toList.Pairwise (· < ·)
def AK(h:pE xs){i k:Nat}(hik:i<k)(hk:k<xs.size)(j:Nat):xs.getD i j<xs.getD k j:=by
 have hi:i<xs.size:=Dv hik hk
 have e1:xs.getD i j=xs.toList[i]'(by simpa using hi):=by simp[Em,hi]
 have e2:xs.getD k j=xs.toList[k]'(by simpa using hk):=by simp[Em,hk]
 rw[e1,e2];exact Hz.mp h i k _ _ hik
theorem JB(h:pE xs)(j:Nat):∀(fuel lo hi:Nat),lo<=hi->hi<=xs.size->hi-lo<=fuel->(∀i,i<lo->xs.getD i j<j)->(∀i,hi<=i->i<xs.size->j<=xs.getD i j) ->
  Ji xs j fuel lo hi<=xs.size/\(∀i,i<Ji xs j fuel lo hi->xs.getD i j<j)/\(∀i,Ji xs j fuel lo hi<=i->i<xs.size->j<=xs.getD i j)
 | 0,lo,hi,h1,h2,h3,a,b=>by
  have e:lo=hi:=by omega
  subst e;exact⟨h2,a,b⟩
 |fuel+1,lo,hi,h1,h2,h3,a,b=>by
  unfold Ji;by_cases ak:lo<hi
  .rw[y6 ak];right
   have hm:(lo+hi) / 2<hi:=by omega
   have cg:lo<=(lo+hi) / 2:=by omega
   by_cases hc:xs.getD ((lo+hi) / 2) j<j
   .rw[y6 hc];refine JB h j fuel _ hi ⋯ h2 ⋯ (λi bL=>?_) b;by_cases e:i=(lo+hi) / 2
    .rw[e];exact hc
    .exact Dv (AK h (by omega:i<(lo+hi) / 2) ⋯ j) hc
   .rw[y8 hc];refine JB h j fuel lo _ cg ⋯ ⋯ a (λi bL df=>?_);by_cases e:i=(lo+hi) / 2
    .rw[e];omega
    .have:=AK h (by omega:(lo+hi) / 2<i) df j
     omega
  .rw[y8 ak]
   have e:lo=hi:=by omega
   subst e;exact⟨h2,a,b⟩
def yT(h:pE xs)(j:Nat):Be xs j<=xs.size/\(∀i,i<Be xs j->xs.getD i j<j)/\(∀i,Be xs j<=i->i<xs.size->j<=xs.getD i j):=JB h j xs.size 0 xs.size (Bh _) (Ad _) ⋯ (λi hi=>u3 hi (Fx _)) (λi h1 h2=>u3 h2 (Nat.not_lt.mpr h1))
def ϋ(h:pE xs){i:Nat}(hi:i<xs.size):Be xs (xs.getD i 0+1)=i+1:=by
 obtain⟨b1,b2,b3⟩:=yT h (xs.getD i 0+1)
 have ge:∀k m n:Nat,k<xs.size->xs.getD k m=xs.getD k n:=λk m n hk=>by simp[Em,hk]
 by_cases ak:Be xs (xs.getD i 0+1)<=i
 .have:=b3 i ak hi
  have e:=ge i (xs.getD i 0+1) 0 hi;omega
 .by_cases hgt:i+1<Be xs (xs.getD i 0+1)
  .have h1:=b2 (i+1) hgt;have h2:=AK h (by omega:i<i+1) ⋯ 0;have e:=ge (i+1) (xs.getD i 0+1) 0 ⋯;omega
  .omega
def Zv(h:pE xs):Be xs 0=0:=by
 obtain⟨b1,b2,b3⟩:=yT h 0;by_cases hz:Be xs 0=0
 .exact hz
 .exact u3 (b2 0 ⋯) (Fx _)
def Qh(h:pE xs)(hn:xs[Be xs j]?≠some j):pE (G5 xs (Be xs j) j):=by
 obtain⟨b1,b2,b3⟩:=yT h j;unfold pE;rw[Ih]
 have ge:∀(k:Nat) (hk:k<xs.toList.length),xs.getD k j=xs.toList[k]:=λk hk=>by
  have bQ:k<xs.size:=by simpa using hk
  simp[Em,bQ]
 rw[Dy];refine⟨h.sublist (Lg _ _),D7.mpr ⟨λy hy=>?_,h.sublist (List.drop_sublist _ _)⟩,λx hx y hy=>?_⟩
 .obtain⟨k,hk,rfl⟩:=E8 hy;rw[Ff]at hk;rw[Lo]
  have fW:Be xs j+k<xs.toList.length:=by omega
  have iN:Be xs j+k<xs.size:=by simpa using fW
  have hb:=b3 _ (Md _ k) iN;rw[ge _ fW]at hb;rcases Nat.lt_or_ge j (xs.toList[Be xs j+k]) with z|z
  .exact z
  .exfalso
   have e:xs.toList[Be xs j+k]=j:=by omega
   by_cases k0:k=0
   .subst k0;apply hn
    have hs:Be xs j<xs.size:=by simpa using iN
    rw[D0 hs];simpa using e
   .have hs:Be xs j<xs.size:=by omega
    have h1:=AK h (by omega:Be xs j<Be xs j+k) iN j;rw[ge _ fW,e]at h1;have h2:=b3 _ (Ad _) hs;omega
 .obtain⟨k,hk,rfl⟩:=E8 hx;rw[Eg]at hk;rw[List.getElem_take]
  have fW:k<xs.toList.length:=by omega
  have h1:=b2 k ⋯;rw[ge k fW]at h1;rcases Ac.mp hy with z|z
  .rw[z];exact h1
  .obtain⟨m,hm,rfl⟩:=E8 z;rw[Ff]at hm;rw[Lo]
   have cg:Be xs j+m<xs.toList.length:=by omega
   have h2:=b3 _ (Md _ m) (by simpa using cg);rw[ge _ cg]at h2;omega
def KH{t:D4}(h:t.slot j = .empty\/t.slot j = .dummy):t.place[Be t.place j]?≠some j:=λz=>by unfold M5 at h;dsimp only at h;rw[z]at h;simp at h
theorem JL{t:D4}:∀(fuel:Nat) (p:Hn) (j:Nat) (d:Option Nat),(∀d',p.dummy=some d'->t.slot d' = .dummy)->Hg t f h fuel p=some (.empty j d)->t.slot j = .empty/\∀d',d=some d'->t.slot d' = .dummy
 | 0,p,j,d,_,e=>by cases e
 |fuel+1,p,j,d,hp,e=>by
  have adv:∀q:Hn,(t.advance q).dummy=q.dummy:=λq=>by
   unfold Mf
   split<;>rfl
  unfold Hg at e;split at e
  .rename_i hs;cases e;exact⟨hs,hp⟩
  .rename_i hs;refine JL fuel _ j d (λd' hd=>?_) e;rw[adv]at hd;cases hd;exact hs
  .split at e
   .cases e
   .refine JL fuel _ j d (λd' hd=>?_) e;rw[adv]at hd;exact hp d' hd
def Xc{t:D4}{j:Nat}{b:Bool}(e:t.freeSlot h=some (j,b)):t.place[Be t.place j]?≠some j:=by
 unfold D4.freeSlot at e;split at e
 .rename_i k d hp
  have:=JL (t:=t) _ _ k d (λd' hd=>by
   unfold D4.probeStart at hd
   cases hd) hp
  cases e
  cases d with
  |none=>exact KH (.inl this.1)
  |some d'=>exact KH (.inr (this.2 d' rfl))
 .cases e
def Tb(L:Bool)(t:D4):Prop:=(t.plain=true->pE t.place)/\t.led=L
def DI(h:Tb L t)(n:Nat):Tb L (t.standIn n):=⟨(λz=>by cases z),h.2⟩
def Yo(hT:Tb L t)(es:Array (Int×A9))(h:Int)(x:A9):Tb L (layNew t es h x).2.1:=by
 unfold layNew;split
 .rename_i slot wd hs;right;unfold D4.orStandIn
  have iO:Tb L (t.put slot).1:=by unfold D4.put;refine⟨λz=>?_,hT.2⟩;exact Qh (hT.1 z) (Xc hs)
  split
  .exact iO
  .exact DI iO _
 .exact DI hT _
def Ϻ(hT:Tb L t)(es:Array (Int×A9))(cw:Nat):Tb L (N0 t es cw).2.1:=by
 unfold N0;split
 .rename_i t' aM hr;right;split
  .unfold D4.relaid Nl at hr
   cases ho:Lp (La cw-1) (es.map (·.1)) with
   |none=>rw[ho]at hr;cases hr
   |some owner=>
    rw[ho]at hr;simp only[Option.bind_eq_bind,Option.bind_some,Option.pure_def,Option.some.injEq,Prod.mk.injEq]at hr;obtain⟨rfl,_⟩:=hr;refine⟨λ_=>?_,hT.2⟩;unfold pE;show Ii _ (((Aa (La cw-1+1)).filterMap λj=>(owner.getD j none).map (j,·)).map (·.1));rw[Bu,Iv];refine E5.imp λ{a b} bW p hp q hq=>?_
    obtain⟨k,_,rfl⟩:=B5.mp hp;obtain⟨m,_,rfl⟩:=B5.mp hq;exact bW
  .exact DI hT _
 .exact DI hT _
theorem erase_perm{α:Type}:∀(l:List α) (i:Nat) (h:i<l.length),l.Perm (l[i]::l.eraseIdx i)
 | [],i,h=>u3 h (Fx _)
 |x::l,0,_=>F2 _
 |x::l,i+1,h=>by
  have hi:i<l.length:=by simpa using h
  have ih:=erase_perm l i hi;show (x::l).Perm (l[i]::x::l.eraseIdx i);exact(ih.cons x).trans (Jj _ _ _)
theorem RN{α:Type}(next:Nat->Nat):∀(fuel k:Nat) (left:List α) (out:Array α),left.length=fuel->(O3 next fuel k left out).toList.Perm (out.toList++left)
 | 0,k,left,out,h=>by
  have:left=[]:=List.length_eq_zero_iff.mp h
  subst this;show out.toList.Perm (out.toList++[]);rw[Cr]
 |fuel+1,k,left,out,h=>by
  have hl:next k % left.length<left.length:=Nat.mod_lt _ ⋯;unfold O3;rw[A4 hl];right;refine(RN next fuel (k+1) _ _ (by rw[List.length_eraseIdx_of_lt hl];omega)).trans ?_
  rw[Ll,Cp];exact List.Perm.append_left _ (erase_perm left _ hl).symm
def YD{α:Type}(next:Nat->Nat)(xs:Array α):(Nc next xs).toList.Perm xs.toList:=by
 have:=RN next xs.size 0 xs.toList #[] (by simp)
 show (O3 next xs.size 0 xs.toList #[]).toList.Perm _;simpa using this
abbrev oF(w:Ce):Bool:=w.params.followText "set-order"
def oP(prog:Bs)(w:Ce)(h:Ch)(a:As)(ms:List Int):Prop:=∃o es ep t,h.get? a=some o/\o.ExactSet/\o.data = .set es ep t/\ElemsOf (Fn prog w) es.toList/\Cj (es.toList.map (·.2)) ms/\ms.Nodup/\es.size<scanBound/\t.fits es.size=true/\Tb (!oF w) t
theorem Ps{vs hJ:List A9}(p:hJ.Perm vs):∀{ns:List Int},Cj vs ns->∃bH,Cj hJ bH/\bH.Perm ns:=by
 induction p with
 |nil=>exact λh=>⟨_,h,F2 _⟩
 |cons x p ih=>
  intro ns h
  cases h with
  |cons n t h'=>obtain⟨bH,h1,h2⟩:=ih h';exact⟨n::bH,.cons n t h1,h2.cons n⟩
 |swap x y l=>
  intro ns h
  cases h with
  |cons n t h'=>
   cases h' with
   |cons m u h''=>exact⟨_,.cons m u (.cons n t h''),Jj _ _ _⟩
 |trans p1 p2 ih1 ih2=>intro ns h;obtain⟨n1,h1,q1⟩:=ih2 h;obtain⟨n2,h2,q2⟩:=ih1 h1;exact⟨n2,h2,q2.trans q1⟩
theorem Pt:∀{vs:List A9} {ns:List Int},Cj vs ns->Cj (vs++[.int k t]) (ns++[k])
 |_,_,.nil=>.cons k t .nil
 |_,_,.cons n u h=>.cons n u (Pt h)
theorem Sy:∀{vs:List A9} {ns:List Int} {k:Int},Cj vs ns->(k∈ns↔∃t,Ip k t∈vs)
 |_,_,k,.nil=>by simp
 |_,_,k,.cons n t h=>by
  have ih:=Sy (k:=k) h;rw[Ac];constructor
  .rintro (z|z)
   .rw[z];exact⟨t,A6⟩
   .obtain⟨u,hu⟩:=ih.mp z;exact⟨u,A7 _ hu⟩
  .rintro ⟨u,hu⟩;rcases Ac.mp hu with z|z
   .cases z;exact .inl rfl
   .exact .inr (ih.mpr ⟨u,z⟩)
section
variable{prog:Bs}{w:Ce}{A:Bz}{E:VP}{s:Ae}
def Uh{es:List (Int×A9)}(hi:Cj (es.map (·.2)) ms):(∃e∈es,(Fn prog w).is k e.2=true)↔k∈ms:=by
 rw[Sy hi];constructor
 .rintro ⟨e,he,hk⟩;have hm:e.2∈es.map (·.2):=Cd he;obtain⟨n,t,hn⟩:∃n t,e.2=Ip n t:=hi.all _ hm
  have:k=n:=(Fn prog w).inj e.2 k n hk (by rw[hn];exact intKind_is _ _ _ _)
  subst this;exact⟨t,by rw[<-hn];exact hm⟩
 .rintro ⟨t,ht⟩;obtain⟨e,he,hv⟩:=Aq.mp ht;exact⟨e,he,by rw[hv];exact intKind_is _ _ _ _⟩
theorem v2I{k:Int}{Q:Bool->Ae->Prop}(hS:oP prog w s.heap a ms)(hroom:ms.length+1<scanBound)(h:∀b h' aP,Dd a s.heap h'->oP prog w h' a aP->(∀x,x∈aP↔x∈ms\/x=k)->aP.length<=ms.length+1->Q b { s with heap:=h' }):
  Ah (Aw prog w) A (O4 a (.int k tk) ((Fn prog w).hash k)) Q E s:=by
 obtain⟨o,es,ep,t,ho,bJ,hd,gG,hi,aB,hb,hf,hT⟩:=hS
 have ab:es.size=ms.length:=by
  have:=hi.length
  rw[A3,Ar]at this;exact this
 have bi:(Fn prog w).is k (.int k tk)=true:=intKind_is _ _ _ _;unfold O4 setAddHashedIn;refine Ca (A0 (D5 ho hd hf ?_));right;rw[byScan_of (knd:=Fn prog w) rfl hb gG];simp only[↓reduceIte];unfold setAddByScan;refine A0 (A0 (Fl (A0 (wpAny_setScan_of bi ho hd hf gG ?_))))
 cases hr:List.findIdx? (λe=>(Fn prog w).is k e.2) es.toList with
 |some j=>
  right;obtain⟨hj,hpj,_⟩:=List.findIdx?_eq_some_iff_getElem.mp hr;have hm:k∈ms:=(Uh hi).mp ⟨es.toList[j],Bv hj,hpj⟩;refine x6 (x6 ?_)
  have e:s={ s with heap:=s.heap }:=by cases s;rfl
  rw[e];exact h _ s.heap ms (Dd.refl a s.heap) ⟨o,es,ep,t,ho,bJ,hd,gG,hi,aB,hb,hf,hT⟩ (λx=>⟨.inl,λz=>z.elim id λq=>q▸hm⟩) (E9 _)
 |none=>
  right
  have hm:k∉ms:=λz=>by
   obtain⟨e,he,hp⟩:=(Uh (prog:=prog) (w:=w) hi).mpr z
   have:=List.findIdx?_eq_none_iff.mp hr e he
   rw[hp]at this;cases this
  have hgw:∀(b:Bool) {s₁:Ae} {Q':Unit->Ae->Prop},Q' () s₁->Ah (Aw prog w) A (match b with|true=>rule "set.scan.the-table-gave-way" |false=>Ci ()) Q' E s₁:=λb s₁ Q' hq=>by cases b<;>first|exact x6 hq|exact Fl hq
  have bO:=layNew_perm t es ((Fn prog w).hash k) (.int k tk);have cO:=layNew_fits t es ((Fn prog w).hash k) (.int k tk);have fO:=Yo hT es ((Fn prog w).hash k) (.int k tk);generalize hL:layNew t es ((Fn prog w).hash k) (.int k tk)=Lx at bO cO fO ⊢;obtain⟨bj,t1,wd,gave⟩:=Lx;dsimp only at bO cO fO ⊢;rw[Ll]at bO;have hel1:ElemsOf (Fn prog w) bj.toList:=(gG.push bi rfl).perm bO
  obtain⟨gK,bA,cN⟩:∃gK,Cj (bj.toList.map (·.2)) gK/\gK.Perm (ms++[k]):=by have p2:(bj.toList.map (·.2)).Perm ((es.toList++[((Fn prog w).hash k,Ip k tk)]).map (·.2)):=bO.map _;refine Ps p2 ?_;rw[B9];exact Pt hi
  have hnd1:gK.Nodup:=cN.nodup_iff.mpr (Cq.mpr ⟨aB,by simp,λx hx y hy z=>hm (by rw[Ag.mp hy]at z;exact z▸hx)⟩)
  have hsz1:bj.size=ms.length+1:=by rw[<-Ar,bO.length_eq,Ap,Ar,ab];rfl
  have eS:bj.size<scanBound:=by omega
  have jn:∀x,x∈gK↔x∈ms\/x=k:=λx=>by rw[cN.mem_iff,Az,Ag]
  have bn:gK.length<=ms.length+1:=by rw[cN.length_eq,Ap];exact Ad _
  have fq:∀{h0:Ch} {o0:Ka} {es0:Array (Int×A9)} {eT:Nat} {t0 t2:D4} {aV:Array (Int×A9)},h0.get? a=some o0->o0.ExactSet->o0.data = .set es0 eT t0->aV.toList.Perm bj.toList->t2.fits aV.size=true->Tb (!oF w) t2 ->
    (h0.update a (Ho aV t2)).get? a=some { o0 with data:=.set aV (eT+1) t2 }/\∃bV,oP prog w (h0.update a (Ho aV t2)) a bV/\(∀x,x∈bV↔x∈ms\/x=k)/\bV.length<=ms.length+1:=λ{h0 o0 es0 eT t0 t2 aV} g0 x0 d0 p2 f2 b2=>by
   have hg:(h0.update a (Ho aV t2)).get? a=some { o0 with data:=.set aV (eT+1) t2 }:=by
    have:=C9 (Ho aV t2) g0 (by rw[O8 aV t2 d0];rfl)
    rw[O8 aV t2 d0]at this;exact this
   obtain⟨bV,df,fY⟩:=Ps (p2.map (·.2)) bA
   have hsz2:aV.size=bj.size:=by rw[<-Ar,p2.length_eq,Ar]
   exact⟨hg,bV,⟨_,aV,eT+1,t2,hg,x0,rfl,hel1.perm p2,df,fY.nodup_iff.mpr hnd1,by rw[hsz2];exact eS,f2,b2⟩,λx=>by rw[fY.mem_iff];exact jn x,by rw[fY.length_eq];exact bn⟩
  have tail:∀(t2:D4),t2.fits bj.size=true->Tb (!oF w) t2->∀{R:Option Bool->Ae->Prop},(∀h',Dd a s.heap h'->(∃bV,oP prog w h' a bV/\(∀x,x∈bV↔x∈ms\/x=k)/\bV.length<=ms.length+1)->R (some true) { s with heap:=h' })->∀{g:Bool->Sem Unit},
    (∀(b:Bool) (s₁:Ae) (Q':Unit->Ae->Prop),Q' () s₁->Ah (Aw prog w) A (g b) Q' E s₁) ->
    Ah (Aw prog w) A (do
     storeSet a bj t2
     if (!wd&&t2.tooFull)=true then do
       g (N0 t2 bj (F3 bj.size)).2.2
       storeSet a (N0 t2 bj (F3 bj.size)).1 (N0 t2 bj (F3 bj.size)).2.1
       Ci (some true)
      else Ci (some true)) R E s:=λt2 f2 b2 {R} hR {g} hg=>by
   refine A0 (Jk ho hd ?_ (fits_of_scanBound eS));obtain⟨g1,ms1',G1⟩:=fq ho bJ hd (F2 _) f2 b2;have sb1:=Bp s.heap a (Ho bj t2);split
   .have hp:=relayAll_perm t2 bj (F3 bj.size);have bK:=relayAll_fits t2 bj (F3 bj.size);have htr:=Ϻ b2 bj (F3 bj.size);generalize N0 t2 bj (F3 bj.size)=Rl at hp bK htr ⊢;obtain⟨aV,t3,gave2⟩:=Rl;dsimp only at hp bK htr ⊢
    have hsz:aV.size=bj.size:=by rw[<-Ar,hp.length_eq,Ar]
    refine A0 (hg _ _ _ (A0 (Jk g1 rfl ?_ (fits_of_scanBound (by rw[hsz];exact eS)))))
    obtain⟨_,ms2',G2⟩:=fq g1 bJ rfl hp bK htr;exact x6 (hR _ (sb1.trans (Bp _ a _)) ⟨ms2',G2⟩)
   .exact x6 (hR _ sb1 ⟨ms1',G1⟩)
  refine A0 (hgw _ ?_);have iU:∀h',Dd a s.heap h'->(∃bV,oP prog w h' a bV/\(∀x,x∈bV↔x∈ms\/x=k)/\bV.length<=ms.length+1)->Q true { s with heap:=h' }:=λh' sb ⟨bV,G,m,l⟩=>h _ h' bV sb G m l;have hgg:∀(b:Bool) (s₁:Ae) (Q':Unit->Ae->Prop),Q' () s₁->Ah (Aw prog w) A (match b with|true=>rule "set.scan.the-table-gave-way" |false=>Ci ()) Q' E s₁:=λb s₁ Q' q=>hgw b q
  split
  .refine A0 ?_;rw[hashByValue_scannable 8 rfl];refine x6 ?_;refine tail _ ?_ ?_ (λh' sb z=>?_) hgg
   .exact cO
   .exact fO
   .dsimp only;exact x6 (iU h' sb z)
  .refine A0 (x6 ?_);simp only[↓reduceIte];refine tail _ cO fO (λh' sb z=>?_) hgg;right;exact x6 (iU h' sb z)
theorem NS{κ:Type}{it S:As}{val:Nat->κ}{G:Ch->List κ->Prop}{R:Kz->Ae->Prop}(W:Nf prog w A.in1 it fp [it] n P Sx)(fT:S∉fp)(aG:it∈fp)(fr:∀h h' ms,G h ms->(∀b o,b≠it->h.get? b=some o->h'.get? b=some o)->G h' ms)(add:∀(i:Nat) (v:A9) (s:Ae) (ms:List κ) (Q:Bool->Ae->Prop) (E:VP),i<n->P i v->G s.heap ms->ms.length<=i->(∀b h' tk aP,Dd S s.heap h'->G h' aP->(∀x,x∈aP↔x∈ms\/x=val i)->aP.length<=ms.length+1->Q b { s with heap:=h',toks:=tk })->Ah (Aw prog w) A.in1 (Nu S v) Q E s):
  ∀(r i:Nat) (s:Ae) (ms:List κ),n-i=r->i<=n->Sx i s.heap->G s.heap ms->ms.length<=i ->
   (∀h' tk aP,(∀b o,b≠S->b≠it->s.heap.get? b=some o->h'.get? b=some o)->G h' aP->(∀x,x∈aP↔x∈ms\/∃j,i<=j/\j<n/\x=val j)->R (.ok (.ret .none)) { s with heap:=h',toks:=tk }) ->
   Eu (Aw prog w) A (.builtin "set.update.loop" ⟨[.ref S,.ref it],[]⟩) R s
 | 0,i,s,ms,hr,hi,hx,hS,hl,hR=>by
  have fw:i=n:=by omega
  subst fw;refine codeAny_builtin PyProof.Rows.F.entry_set_update_loop ?_;rw[Br F7 _];show Ah _ A.in1 (Hb (.ref it) >>= _) _ _ s;refine A0 (W.done s _ _ hx λh' tk hk=>x6 (hR h' tk ms (λb o _ h2 e=>hk b o (by simpa using h2) e) (fr _ _ _ hS λb o z e=>hk b o (by simpa using z) e) λx=>?_));constructor
  .exact .inl
  .rintro (z|⟨j,h1,h2,_⟩)
   .exact z
   .omega
 |r+1,i,s,ms,hr,hi,hx,hS,hl,hR=>by
  have ak:i<n:=by omega
  refine codeAny_builtin PyProof.Rows.F.entry_set_update_loop ?_;rw[Br F7 _];show Ah _ A.in1 (Hb (.ref it) >>= _) _ _ s;refine A0 (W.item i s _ _ ak hx λv h1 tk1 hv hx1 hk1=>?_);have dY:=fr _ h1 _ hS λb o z e=>hk1 b o (by simpa using z) e;show Ah _ A.in1 (Hs [v] (Nu S v) >>= _) _ _ _;refine A0 (Ca ?_)
  refine add i v _ ms _ _ ak hv dY hl λb h2 tk2 bV sb hS2 cg fF=>?_;refine x6 ⟨plainId_quiet F7 _,NS W fT aG fr add r (i+1) _ bV ⋯ ak ?_ hS2 ⋯ λh3 tk3 ms3 iN hS3 hm3=>?_⟩
  .exact W.frame _ _ _ hx1 λb aW o e=>(sb.2 b (λz=>fT (z▸aW))).trans e
  .refine hR h3 tk3 ms3 (λb o n1 n2 e=>iN b o n1 n2 ((sb.2 b n1).trans (hk1 b o (by simpa using n2) e))) hS3 λx=>?_;rw[hm3,cg];constructor
   .rintro ((z|z)|⟨j,h1,h2,h3⟩)
    .exact .inl z
    .exact .inr ⟨i,Ad _,ak,z⟩
    .exact .inr ⟨j,⋯,h2,h3⟩
   .rintro (z|⟨j,h1,h2,h3⟩)
    .exact .inl (.inl z)
    .by_cases e:j=i
     .subst e;exact .inl (.inr h3)
     .exact .inr ⟨j,⋯,h2,h3⟩
end
def QX:Nd (.type "tuple") (.type "set")=Ci false:=by rw[Eo];kernel_rfl
def Qy:Nd (.type "tuple") (.type "frozenset")=Ci false:=by rw[Eo];kernel_rfl
section
variable{prog:Bs}{w:Ce}{A:Bz}{E:VP}{s:Ae}
abbrev o4(w:Ce):Ka:={ cls:=.type "set",dict:=none,data:=.set #[] 0 (.fresh 0 0 (!oF w)) }
def ì(a:A9){Q₁:VP}(h:Q₁ (.ref s.heap.objs.size) { s with heap:=s.heap.push (o4 w) }):
  Eu (Aw prog w) A (.call (.builtin "set.__new__") ⟨[.type "set",a],[]⟩) (wants Q₁ E) s:=by
 refine Kl ?_;show Ah _ A.in1 (do Mg "set.__new__" ⟨[.type "set",a],[]⟩;Mx (.builtin "set.__new__" ⟨[.type "set",a],[]⟩)) _ _ s
 refine A0 (Cn (F.newCall_set_1 a) (x6 ⟨plainId_quiet F.plain_set_new _,codeAny_builtin F.entry_set_new ?_⟩));rw[Br F.plain_set_new _];unfold C1.«set.__new__» C1.Frozenset.newClass;have bU:=sub_set_self;obtain⟨hp,g,d,tk,os⟩:=s;right
 wp_walk
 refine Gi (x6 ?_);right;simp only[newObj];exact A0 (wpAny_alloc (x6 (x6 h)))
def Ro{h:Ch}{a:As}(ho:h.get? a=some (o4 w)):oP prog w h a []:=
 ⟨_,#[],0,_,ho,⟨rfl,rfl,rfl⟩,rfl,λe he=>by simp at he,.nil,Ep,∅,by rfl,λ_=>El,rfl⟩
theorem BV{κ:Type}{l:As}{ol:Ka}{val:Nat->κ}{G:Ch->List κ->Prop}{oI:Ka}{Q:VP}(cR:s.heap.get? l=some ol)(ar:ol.cls = .type T)(fC:Nd (.type T) (.type "set")=Ci false)(bE:Nd (.type T) (.type "frozenset")=Ci false)(am:(C4 T==C4 "dict")=false)(hoI:oI.isFreed=false)(jz:∀(A':Bz) (E':VP) (s':Ae) (Q':VP),s'.heap.get? l=some ol->Q' (.ref s'.heap.objs.size) { s' with heap:=s'.heap.push oI }->Ah (Aw prog w) A' (Nq (.ref l)) Q' E' s')(hW:Nf prog w A.in1.in1.in1 (s.heap.objs.size+1) [s.heap.objs.size+1,l] [s.heap.objs.size+1] n P Sx)(hx:∀h,h.get? l=some ol->h.get? (s.heap.objs.size+1)=some oI->Sx 0 h)(g0:∀h,(∀b o,s.heap.get? b=some o->h.get? b=some o)->h.get? s.heap.objs.size=some (o4 w)->G h [])(fr:∀h h' ms,G h ms->(∀b o,b≠s.heap.objs.size+1->h.get? b=some o->h'.get? b=some o)->G h' ms)(add:∀(i:Nat) (v:A9) (s':Ae) (ms:List κ) (Q:Bool->Ae->Prop) (E:VP),i<n->P i v->G s'.heap ms->ms.length<=i->(∀b h' tk aP,Dd s.heap.objs.size s'.heap h'->G h' aP->(∀x,x∈aP↔x∈ms\/x=val i)->aP.length<=ms.length+1->Q b { s' with heap:=h',toks:=tk })->Ah (Aw prog w) A.in1.in1.in1 (Nu s.heap.objs.size v) Q E s')(h:∀(h':Ch) (tk:Nat) (ms:List κ),G h' ms->(∀x,x∈ms↔∃j,j<n/\x=val j)->(∀b o,s.heap.get? b=some o->h'.get? b=some o)->Q (.ref s.heap.objs.size) { s with heap:=h',toks:=tk }):
  Ah (Aw prog w) A (call (.type "set") [.ref l]) Q E s:=by
 obtain⟨c,tl,hmro⟩:=F.called_set.mro;have hmade:=F.called_set.made;have bU:=F.called_set.sub;refine Ol (Kl ?_);show Ah _ _ (callAny (.type "set") _) _ _ _;refine x6 ⟨Code.quiet_builtin _ ‹_›,codeAny_builtin F.entry_type_call ?_⟩;rw[Bz.under_plain (weight_type_call_type "set" [.ref l] []) rfl];have h1:=F.called_set.notType;have h2:=F.called_set.canCreate
 have hct:=F.typeCall_set_1 (.ref l)
 repeat (any_goals (first|assumption|wp_step))
 refine codeAny_mono (ì (.ref l) (E:=E) (Q₁:=λobj s₁=>obj = .ref s.heap.objs.size/\s₁={ s with heap:=s.heap.push (o4 w) }) ⟨rfl,rfl⟩) λr s₁ hr=>?_
 cases r with
 |error e=>exact hr
 |ok fl=>
  cases fl with
  |ret obj=>
   obtain⟨rfl,rfl⟩:=hr;have hS:(s.heap.push (o4 w)).get? s.heap.objs.size=some (o4 w):=Ak _ rfl;have hT:M6 { s with heap:=s.heap.push (o4 w) } (.ref s.heap.objs.size) "set":=⟨_,hS,rfl⟩;have hli:=F.called_set.init.lookup;have hbi:=F.called_set.init.bind (.ref s.heap.objs.size)
   repeat (any_goals (first|assumption|wp_step))
   refine codeAny_mono (codeAny_call_builtin (R:=wants (λr s₂=>r = .none/\∃h' tk ms,s₂={ s with heap:=h',toks:=tk }/\G h' ms/\(∀x,x∈ms↔∃j,j<n/\x=val j) /\
     (∀b o,s.heap.get? b=some o->h'.get? b=some o)) E) F.called_set.init.plain F.entry_set_init (check_set_init_1 hT ?_)) λr₂ s₂ hr₂=>?_
   .obtain⟨ocls,je,iP,fI⟩:=ol;have hcl':ocls = .type T:=ar;subst hcl';have jv:(s.heap.push (o4 w)).get? l=some { cls:=.type T,dict:=je,data:=iP,slots:=fI }:=A8 _ cR;unfold C1.«set.__init__» noKeywords C1.Frozenset.updateFrom;generalize hPI:Nq=PI
    wp_walk
    subst hPI;refine jz _ _ _ _ jv ?_;have hz:(s.heap.push (o4 w)).objs.size=s.heap.objs.size+1:=Dx ..;rw[hz];refine A0 (Jb ?_);have hlS:l<s.heap.objs.size:=Aj cR
    have fT:s.heap.objs.size∉[s.heap.objs.size+1,l]:=by simp only[Ac,Dg,or_false,not_or];exact⟨An (E4 _),Cw hlS⟩
    have gI:((s.heap.push (o4 w)).push oI).get? (s.heap.objs.size+1)=some oI:=by have g:=Ak (s.heap.push (o4 w)) (o:=oI) hoI;rw[hz]at g;exact g
    refine NS hW fT A6 fr add (n-0) 0 _ [] rfl (Bh _) (hx _ (A8 _ jv) gI) (g0 _ (λb o e=>A8 _ (A8 _ e)) (A8 _ hS)) (Bh _) λh' tk ms hk hG hm=>?_;refine x6 (x6 ⟨rfl,h',tk,ms,rfl,hG,λx=>?_,λb o e=>?_⟩)
    .rw[hm];constructor
     .rintro (z|⟨j,_,z⟩)
      .cases z
      .exact⟨j,z⟩
     .rintro ⟨j,z⟩;exact .inr ⟨j,Bh _,z⟩
    .have eS:=Aj e;exact hk b o (An eS) (An (C5 eS)) (A8 _ (A8 _ e))
   .cases r₂ with
    |error e=>exact hr₂
    |ok fl₂=>
     cases fl₂ with
     |ret r=>
      obtain⟨rfl,h',tk,ms,rfl,hG,hm,hk⟩:=hr₂
      repeat (any_goals (first|assumption|wp_step))
      exact h _ _ _ hG hm hk
     |_=>exact hr₂.elim
  |_=>exact hr.elim
end
def wW:Slot "set_iterator" "__next__" "set_iterator.__next__" :=
 .of (owner:="set_iterator") (n:="__next__") (by rw[Et,Da];kernel_rfl) ‹_› ‹_› ‹_›
  (by first|exact .inl ‹_›|exact .inr ‹_›) (by rw[Eo];kernel_rfl)
def QL:L7 O9 "set_iterator.__next__" = some C1.«set_iterator.__next__»:=Mh (by kernel_rfl)
def P4(a:A9):Ia "set_iterator.__next__" ⟨[a],[]⟩:=by unfold Ia;kernel_rfl
def Xb:L7 O9 "set.__iter__" = some C1.«frozenset.__iter__»:=N1 (id':="frozenset.__iter__") (by kernel_rfl) rfl ‹_› (by kernel_rfl)
section
variable{prog:Bs}{w:Ce}{A:Bz}{E:VP}{s:Ae}
abbrev xY(first:A9)(i:Nat)(a:As)(n ep:Nat):Ka:={ cls:=.type "set_iterator",data:=.fields #[first,rawInt i,.ref a,rawInt n,rawInt ep] }
def Yv{it a:As}{slot i n ep nx:Nat}{x:A9}{o:Ka}{Q:Option A9->Ae->Prop}(aG:s.heap.get? it=some (xY (rawInt slot) i a n ep))(ho:s.heap.get? a=some o)(hd:o.data = .set es ep t)(hf:t.fits es.size=true)(hn:es.size=n)(hnx:∀(A':Bz) (Q':Option (A9×Nat)->Ae->Prop) (E':VP),Q' (some (x,nx)) s->Ah (Aw prog w) A' (Kv a slot i ep) Q' E' s)(hQ:∀h',Dd it s.heap h'->h'.get? it=some (xY (rawInt nx) (i+1) a n ep)->Q (some x) { s with heap:=h' }):Ah (Aw prog w) A (Hb (.ref it)) Q E s:=by
 have hT:s.TypeIs (.ref it) "set_iterator":=⟨_,aG,rfl⟩;unfold Hb;refine A0 (Ha (Cy (name:=Bl "__next__") hT wW (Ct wW hT QL ?_ (P4 _))));unfold C1.«set_iterator.__next__»;refine A0 (Cn (show slotArgs "__next__" 0 ⟨[.ref it],[]⟩=Ci (.ref it,[]) from rfl) ?_);right;refine A0 (wpAny_fieldsOf aG rfl ?_)
 show Ah _ _ (setEntries a >>= _) _ _ s;refine A0 (Kr ho hd hf ?_);rw[hn]
 have e0:((n:Int) != (n:Int))=false:=by simp
 simp only[e0,B4,if_false];show Ah _ _ (Kv a slot i ep >>= _) _ _ s;refine A0 (hnx _ _ _ ?_);right;refine A0 (Fk aG rfl (by simp) ?_);have g1:(s.heap.update it (Ka.mapFields (·.setIfInBounds 0 (rawInt nx)))).get? it=some (xY (rawInt nx) i a n ep):=C9 _ aG rfl;refine A0 (Fk g1 rfl (by simp) (x6 ⟨x,rfl,x6 (hQ _ ((Bp ..).trans (Bp ..)) ?_)⟩))
 exact C9 _ g1 rfl
def Yu{it a:As}{slot i n ep:Nat}{o:Ka}{es:Array (Int×A9)}{t:D4}{Q:Option A9->Ae->Prop}(hh:A.handled=none)(aG:s.heap.get? it=some (xY (rawInt slot) i a n ep))(ho:s.heap.get? a=some o)(hd:o.data = .set es ep t)(hf:t.fits es.size=true)(hn:es.size=n)(hnx:∀(A':Bz) (Q':Option (A9×Nat)->Ae->Prop) (E':VP),Q' none s->Ah (Aw prog w) A' (Kv a slot i ep) Q' E' s)(hQ:∀h',Oc it s.heap h'->Q none { s with heap:=h' }):Ah (Aw prog w) A (Hb (.ref it)) Q E s:=by
 have hT:s.TypeIs (.ref it) "set_iterator":=⟨_,aG,rfl⟩;unfold Hb;refine A0 (Ha (Cy (name:=Bl "__next__") hT wW (Ct wW hT QL ?_ (P4 _))));unfold C1.«set_iterator.__next__»;refine A0 (Cn (show slotArgs "__next__" 0 ⟨[.ref it],[]⟩=Ci (.ref it,[]) from rfl) ?_);right;refine A0 (wpAny_fieldsOf aG rfl ?_)
 show Ah _ _ (setEntries a >>= _) _ _ s;refine A0 (Kr ho hd hf ?_);rw[hn]
 have e0:((n:Int) != (n:Int))=false:=by simp
 simp only[e0,B4,if_false];show Ah _ _ (Kv a slot i ep >>= _) _ _ s;refine A0 (hnx _ _ _ ?_);right;refine A0 (Fk aG rfl (by simp) ?_);simp only[newExc,O0];refine A0 (A0 (Bc ?_ (by size_fits)));refine A0 (m:=Hm _ _) (Cn (a:=Bx) (by first|rfl|(simp only[Hm];rfl)) ?_)
 refine Bc ?_ (by size_fits);simp only[raiseNew];refine A0 (Nk ?_);rw[show A.in1.handled=none from hh];refine A0 (x6 (Od ?_));refine A0 (Hx (T:="StopIteration") (b:=true) ⟨_,Ak _ rfl,rfl⟩ isSubtype_stop ?_);exact x6 (hQ _ (((Bp ..).extBut.push _).push _))
end
section
variable{prog:Bs}{w:Ce}{A:Bz}{E:VP}{s:Ae}{a:As}{o:Ka}{es:Array (Int×A9)}{t:D4}{ep:Nat}
def PB{slot i:Nat}{Q:Option (A9×Nat)->Ae->Prop}(hb:oF w=true)(ho:s.heap.get? a=some o)(hd:o.data = .set es ep t)(hf:t.fits es.size=true)(h:Q (((Nc (w.params.setOrder a ep) es)[i]?).map λe=>(e.2,slot)) s):Ah (Aw prog w) A (Kv a slot i ep) Q E s:=by
 unfold Kv;refine A0 (D5 ho hd hf ?_);right;unfold Nv;refine A0 (A0 (Gi (x6 ?_)));show Ah _ _ (if oF w=true then _ else _) _ _ _;rw[y6 hb];simp only[bne_self_eq_false,B4,if_false];unfold setWalk;refine A0 (A0 (D5 ho hd hf ?_));right;unfold Nv;refine A0 (A0 (Gi (x6 ?_)))
 show Ah _ _ (if oF w=true then _ else _) _ _ _;rw[y6 hb];refine A0 (Gi (x6 (x6 h)))
def Qn{Q:Option (A9×Nat)->Ae->Prop}(hb:oF w=false)(ho:s.heap.get? a=some o)(hd:o.data = .set es ep t)(hf:t.fits es.size=true)(hp:t.plain=true\/es.size<=1)(hL:t.led=true)(h:Q (match es[Be t.place slot]?,t.place[Be t.place slot]? with|some (_,x),some j=>some (x,j+1)|_,_=>none) s):Ah (Aw prog w) A (Kv a slot i ep) Q E s:=by
 unfold Kv;refine A0 (D5 ho hd hf ?_);right;unfold Nv;refine A0 (A0 (Gi (x6 ?_)));show Ah _ _ (if oF w=true then _ else _) _ _ _;rw[y8 (by rw[hb];exact Ay)]
 split
 .rename_i hz;have iK:(!t.plain&&decide (es.size>1))=true:=hz;rw[B8]at iK;have z2:=lZ iK.2;rcases hp with q|q
  .rw[q]at iK;cases iK.1
  .omega
 .refine A0 ?_;show Ah _ _ (if (!t.led&&!es.isEmpty)=true then Of _ else Ci ()) _ _ _;rw[hL];exact x6 (x6 h)
def OS:Slot "set_iterator" "__iter__" "set_iterator.__iter__" :=
 .of (owner:="set_iterator") (n:="__iter__") (by rw[Et,Da];kernel_rfl) ‹_› ‹_› ‹_›
  (by first|exact .inl ‹_›|exact .inr ‹_›) (by rw[Eo];kernel_rfl)
def VA:L7 O9 "set_iterator.__iter__" = some C1.«dict_keyiterator.__iter__»:=N1 (id':="dict_keyiterator.__iter__") (by kernel_rfl) rfl ‹_› (by kernel_rfl)
def XN(a:A9):Ia "set_iterator.__iter__" ⟨[a],[]⟩:=by unfold Ia;kernel_rfl
def Yj{Q:VP}(hT:s.TypeIs (.ref it) "set_iterator")(h:Q (.ref it) s):Ah (Aw prog w) A (Nq (.ref it)) Q E s:=by refine Lq hT OS (Ct OS hT VA ?_ (XN _));exact x6 ⟨_,rfl,"set_iterator",_,hT,wW.lookup,h⟩
end
def WH:L5 (.type "set") "__len__" = Ci (some (.builtin "set.__len__")):=by rw[Et,Da];kernel_rfl
section
variable{prog:Bs}{w:Ce}{A:Bz}{E:VP}{s:Ae}{a:As}{ms:List Int}
def UT{α:Type}{M:Model}{c:Prop}[Decidable c]{x y:Sem α}{Q:α->Ae->Prop}(h:c)(hx:Ah M A x Q E s):Ah M A (if c then x else y) Q E s:=by rw[y6 h];exact hx
end
end L3
namespace L3
open PySem PySem.Spec PyProof.Rows L2 PySem.SeqAt
def l4{α:Type}[DecidableEq α]:List α->List α
 | []=>[]
 |x::xs=>if x∈l4 xs then l4 xs else x::l4 xs
theorem t8{α:Type}[DecidableEq α]:∀{xs:List α} {y:α},y∈l4 xs↔y∈xs
 | [],y=>Iff.rfl
 |x::xs,y=>by
  unfold l4;by_cases h:x∈l4 xs
  .rw[y6 h,t8,Ac];constructor
   .exact .inr
   .rintro (z|z)
    .rw[z];exact t8.mp h
    .exact z
  .rw[y8 h,Ac,Ac,t8]
theorem wX{α:Type}[DecidableEq α]:∀xs:List α,(l4 xs).Nodup
 | []=>Ep
 |x::xs=>by
  unfold l4;by_cases h:x∈l4 xs
  .rw[y6 h];exact wX xs
  .rw[y8 h];exact By.mpr ⟨h,wX xs⟩
theorem CD{α:Type}:∀{xs ys:List α},xs.Nodup->ys.Nodup->(∀a,a∈xs↔a∈ys)->xs.Perm ys
 | [],ys,_,_,h=>by
  cases ys with
  |nil=>exact F2 _
  |cons y ys=>exact u3 ((h y).mpr A6) (by simp)
 |x::xs,ys,hx,hy,h=>by
  have hm:x∈ys:=(h x).mp A6;obtain⟨k,hk,e⟩:=E8 hm;have p:=erase_perm ys k hk;rw[e]at p;have hy':=By.mp (p.nodup_iff.mp hy);have aH:=By.mp hx;refine(List.Perm.cons x (CD aH.2 hy'.2 λa=>?_)).trans p.symm;constructor
  .intro ha
   have:=p.mem_iff.mp ((h a).mp (A7 _ ha))
   rcases Ac.mp this with z|z
   .rw[z]at ha;exact u3 ha aH.1
   .exact z
  .intro ha
   have:=(h a).mpr (p.mem_iff.mpr (A7 _ ha))
   rcases Ac.mp this with z|z
   .rw[z]at ha;exact u3 ha hy'.1
   .exact z
section
variable{X:Cx}
abbrev NC(X:Cx)(a:As)(ms:List Int):HO:=.ext λh=>oP X.prog X.w h a ms
def ë(G:oP X.prog X.w h a ms):kX X.prog X.w H h a (NC X a ms):=by obtain⟨o,es,ep,t,ho,z⟩:=G;refine⟨⟨o,es,ep,t,ho,z⟩,⟨o,ho⟩,λh1 h2 hz k=>?_⟩;obtain⟨o',cD,dF,t',br,z'⟩:=hz;exact⟨o',cD,dF,t',k _ br,z'⟩
def Vt{h1 h2:Ch}(G:oP X.prog X.w h1 S ms)(k:∀b o,b≠S+1->h1.get? b=some o->h2.get? b=some o):oP X.prog X.w h2 S ms:=by obtain⟨o,es,ep,t,ho,z⟩:=G;exact⟨o,es,ep,t,k _ _ (An (E4 _)) ho,z⟩
def U2{Q:Bool->Ae->Prop}{s:Ae}{v:A9}(hv:∃t,v = .int k t)(G:oP X.prog X.w s.heap S ms)(hr:ms.length+1<scanBound)(hQ:∀b h' tk aP,Dd S s.heap h'->oP X.prog X.w h' S aP->(∀x,x∈aP↔x∈ms\/x=k)->aP.length<=ms.length+1->Q b { s with heap:=h',toks:=tk }):Ah (Aw X.prog X.w) A (Nu S v) Q E s:=by obtain⟨t,rfl⟩:=hv;unfold Nu;exact Ca (A0 ((Fn X.prog X.w).pyHash (k:=k) (intKind_is _ _ _ _) (v2I G hr λb h2 bV sb hS2 cg fF=>hQ b h2 _ bV sb hS2 cg fF)))
def ŗ(X:Cx):List V->Hp->VK->Prop:=λxs H Q=>∃(p:As) (ns:List Int),xs=[.ref p]/\(i7 X.K H p (ns.map V.int)\/i8 X.K H p (ns.map V.int))/\ns.length+1<scanBound/\∀(a:As) (ms:List Int),H a=none->ms.Nodup->(∀x,x∈ms↔x∈ns)->Q (.ref a) (upd H a (NC X a ms))
def ZJ(hc:X.calm=true):lC X (.type "set") (ŗ X):=by
 intro aa s U H xs us Q I r h;obtain⟨p,ns,rfl,hq,hb,q⟩:=h;obtain⟨u,rfl,rx⟩:=l7 r;cases rx;have hh:X.A.handled=none:=I.ok.hd hc
 have fin:∀(h':Ch) (tk:Nat) (ms:List Int),oP X.prog X.w h' s.heap.objs.size ms->(∀x,x∈ms↔∃j,j<ns.length/\x=ns.getD j 0)->(∀b o,s.heap.get? b=some o->h'.get? b=some o)->EP X aa U Q (.ref s.heap.objs.size) { s with heap:=h',toks:=tk }:=λh' tk ms G hm hk=>by
  refine⟨.ref s.heap.objs.size,_,I.laid (t':=tk) hk (Ad _) (ë G),rfl,q _ ms (I.hok.fresh (Ad _)) ?_ λx=>?_⟩
  .obtain⟨o,es,ep,t,ho,bJ,hd,gG,hi,aB,_⟩:=G;exact aB
  .rw[hm];constructor
   .rintro ⟨j,hj,rfl⟩;rw[K5 (A4 hj)];exact Bv hj
   .intro hx;obtain⟨j,hj,e⟩:=E8 hx;exact⟨j,hj,by rw[K5 (A4 hj),e]⟩
 rcases hq with hq|hq
 .obtain⟨its,rv,pl,hz⟩:=I.list hq;have hi:Cj its ns:=Z3 rv;have hl:=hi.length
  have cA:its.toArray.size=ns.length:=by simp[hl]
  obtain⟨ol,cR,ar,nl,dy⟩:=pl.isList;have au:p<s.heap.objs.size:=Aj cR;have vn:∀(i:Nat) (v:A9),its.toArray[i]?=some v->∃t,v = .int (ns.getD i 0) t:=λi v hv=>Cj.int_at hi i v (by simpa using hv);have W0:=Ov (prog:=X.prog) (w:=X.w) (A:=X.A.in1.in1.in1) hh (s.heap.objs.size+1) p (An (C5 au)) its.toArray
  refine BV (T:="list") (n:=ns.length) (val:=λi=>ns.getD i 0) (oI:={ cls:=.type "list_iterator",data:=.fields #[.ref p,.int 0 0] }) (Sx:=λi h=>h.IsListIter (s.heap.objs.size+1) p i/\h.IsList p its.toArray) cR ar F.sub_list_set F.sub_list_frozenset ∅ rfl
   (λA' E' s' Q' g q'=>Hd ⟨ol,g,ar,nl,dy⟩ q')
   ⟨W0.sub,W0.frame,λi s1 Q1 E1 bA st hQ=>W0.item i s1 Q1 E1 (by simpa [hl] using bA) st λv h' tk hP a b=>hQ v h' tk (vn i v hP) a b,λs1 Q1 E1 st hQ=>W0.done s1 Q1 E1 (by rw[cA];exact st) hQ,W0.self⟩
   (λh' g1 g2=>⟨⟨_,g2,rfl,rfl⟩,⟨ol,g1,ar,nl,dy⟩⟩) (λh' _ g=>Ro g) (λh1 h2 ms G k=>Vt G k) (λi v s' ms Q' E' bA hv G bR hQ=>U2 hv G ⋯ hQ) fin
 .obtain⟨its,rv,pl,hz⟩:=I.tuple hq;have hi:Cj its ns:=Z3 rv;have hl:=hi.length
  have cA:its.toArray.size=ns.length:=by simp[hl]
  obtain⟨ol,cR,ar,nl,dy⟩:=pl;have au:p<s.heap.objs.size:=Aj cR;have vn:∀(i:Nat) (v:A9),its.toArray[i]?=some v->∃t,v = .int (ns.getD i 0) t:=λi v hv=>Cj.int_at hi i v (by simpa using hv);have W0:=Nf.tuple (prog:=X.prog) (w:=X.w) (A:=X.A.in1.in1.in1) hh (s.heap.objs.size+1) p (An (C5 au)) its.toArray
  refine BV (T:="tuple") (n:=ns.length) (val:=λi=>ns.getD i 0) (oI:={ cls:=.type "tuple_iterator",data:=.fields #[.ref p,.int 0 0] }) (Sx:=λi h=>h.IsTupleIter (s.heap.objs.size+1) p i/\h.IsTuple p its.toArray) cR ar QX Qy ∅ rfl
   (λA' E' s' Q' g q'=>Ev ⟨ol,g,ar,nl,dy⟩ q')
   ⟨W0.sub,W0.frame,λi s1 Q1 E1 bA st hQ=>W0.item i s1 Q1 E1 (by simpa [hl] using bA) st λv h' tk hP a b=>hQ v h' tk (vn i v hP) a b,λs1 Q1 E1 st hQ=>W0.done s1 Q1 E1 (by rw[cA];exact st) hQ,W0.self⟩
   (λh' g1 g2=>⟨⟨_,g2,rfl,rfl⟩,⟨ol,g1,ar,nl,dy⟩⟩) (λh' _ g=>Ro g) (λh1 h2 ms G k=>Vt G k) (λi v s' ms Q' E' bA hv G bR hQ=>U2 hv G ⋯ hQ) fin
def Ù(X:Cx):List V->Hp->VK->Prop:=λxs H Q=>∃(a:As) (ms:List Int),xs=[.ref a]/\H a=some (NC X a ms)/\Q (.int ms.length) H
def Į:lC X (.builtin "len") (Ù X):=by intro aa s U H xs us Q I r h;obtain⟨a,ms,rfl,hH,q⟩:=h;obtain⟨u,rfl,rx⟩:=l7 r;cases rx;obtain⟨o,es,ep,t,ho,bJ,hd,gG,hi,aB,hb,hf,hT⟩:oP X.prog X.w s.heap a ms:=(I.hok a _ hH).1;have hl:=hi.length;rw[A3,Ar]at hl;refine call_len_set ho bJ hd hf (by unfold scanBound at hb;omega) ⟨.int ms.length,H,I.tok _,⟨_,by rw[hl]⟩,q⟩
variable{e:Expr}{fa:EL}{p p2 pos aU:Hi}
def BG(fa:EL):EL:=λY=>match fa Y with
 |some ds=>(match lJ ds with|some ns=>if ns.length<64 then some ((vJ (l4 ns)).map D.int) else none|none=>none)
 |none=>none
def DZ(fa:EL):ED:=λY=>match fa Y with
 |some ds=>(match lJ ds with|some ns=>if ns.length<4000 then some (.int (l4 ns).length) else none|none=>none)
 |none=>none
def ï{K:A5}{Z:List As}{H:Hp}{a:As}{xs:List V}{ns:List Int}(hq:i7 K H a xs\/i8 K (K0 Z H) a xs)(rr:J3 K (K0 Z H) (ns.map D.int) xs):i7 K H a (ns.map V.int)\/i8 K H a (ns.map V.int):=by rw[Y9]at rr;subst rr;exact hq.imp id (j9 v4)
def Ğ(hc:X.calm=true)(hm:X.mg "len" = none)(hms:X.mg "set" = none)(ha:ZQ X e fa)(hg:Gl X "len":=by rfl)(hgs:Gl X "set":=by rfl)(he:J0 e=true:=by rfl): ZE X (.Call (.Name "len" p) [.Call (.Name "set" p2) [e] [] aU] [] pos) (DZ fa):=
 ⟨have ha:=ha.h;
 j6 (tW Į hg hm ‹_› (J7 (oN (ZJ hc) hgs hms ‹_› (J7 ha Y5 (w9 he)) ∅ ∅ (w9 he) (K7 rfl)) Y5 (w9 rfl)) ∅ ∅ (w9 rfl) (K7 rfl)) λU H Q h_=>by
  refine f7 h_ λY es B H0 V0 Z e1 r q=>?_;unfold DZ at e1;split at e1
  .rename_i ds aF;split at e1
   .rename_i ns hn;split at e1
    .rename_i fD;cases e1;have cS:=rF hn;subst cS;refine⟨Y,_,B,H0,V0,Z,aF,r,λa xs H1 s1 hq rr=>⟨a,ns,rfl,ï hq rr,by unfold scanBound;omega,λb ms hb aB aJ=>?_⟩⟩
     have pm:ms.Perm (l4 ns):=CD aB (wX ns) λx=>by rw[aJ,t8]
     refine⟨b,ms,rfl,w6,q _ _ (s1.trans (u9 hb)) (v7.mpr ?_)⟩;rw[pm.length_eq]
    .cases e1
   .cases e1
  .cases e1⟩
end
end L3
namespace L3
open PySem PySem.Spec PyProof.Rows L2
def pY(m:Nat):Nat->Nat->Nat->List Nat
 | 0,_,_=>[]
 |f+1,i,p=>Lk i (E2 m i+1-i)++pY m f (Cb m i p).1 (Cb m i p).2
abbrev m8(m:Nat)(h:Int):List Nat:=pY m (m+15) (Fd h % (m+1)) (Fd h)
def PM(m i:Nat):i<=E2 m i:=by unfold E2;split<;>omega
def qA(m:Nat)(f:Nat)(p:Hn):List Nat:=Lk p.j (p.more+1)++pY m f (Cb m p.i p.perturb).1 (Cb m p.i p.perturb).2
def Ċ(t:D4)(h:Int):m8 t.mask h=qA t.mask (t.mask+14) (t.probeStart h):=by
 unfold m8 qA D4.probeStart;show pY t.mask (t.mask+14+1) _ _=_;unfold pY
 have:=PM t.mask (Fd h % (t.mask+1))
 congr 2;right;omega
def DO(t:D4):∀(f:Nat) (p:Hn),qA t.mask f p=p.j::(if 0<p.more\/0<f then qA t.mask (if 0<p.more then f else f-1) (t.advance p) else []):=by
 intro f p;unfold Mf;by_cases hm:p.more>0
 .rw[y6 hm,y6 (.inl hm),y6 hm];unfold qA;right;obtain⟨k,hk⟩:∃k,p.more=k+1:=⟨p.more-1,⋯⟩;rw[hk,List.range'_succ];rfl
 .have hz:p.more=0:=by omega
  rw[y8 hm,y8 hm];unfold qA;rw[hz]
  cases f with
  |zero=>simp[pY]
  |succ f=>
   rw[y6 (.inr (Nat.succ_pos _))];have ew:pY t.mask (f+1) (Cb t.mask p.i p.perturb).1 (Cb t.mask p.i p.perturb).2=Lk (Cb t.mask p.i p.perturb).1 (E2 t.mask (Cb t.mask p.i p.perturb).1+1-(Cb t.mask p.i p.perturb).1)++pY t.mask f (Cb t.mask (Cb t.mask p.i p.perturb).1 (Cb t.mask p.i p.perturb).2).1 (Cb t.mask (Cb t.mask p.i p.perturb).1 (Cb t.mask p.i p.perturb).2).2:=rfl
   rw[ew];right
   have:=PM t.mask (Cb t.mask p.i p.perturb).1
   have e:E2 t.mask (Cb t.mask p.i p.perturb).1+1-(Cb t.mask p.i p.perturb).1=E2 t.mask (Cb t.mask p.i p.perturb).1-(Cb t.mask p.i p.perturb).1+1:=by omega
   rw[e];rfl
def w04(t:D4)(q:Hn):(t.advance q).dummy=q.dummy:=by
 unfold Mf
 split<;>rfl
theorem Qs{t:D4}{g:Nat->Int}{h:Int}(hd:∀j,t.slot j≠.dummy):∀(fuel f:Nat) (p:Hn),p.dummy=none->(qA t.mask f p).length<=fuel->(∃j∈qA t.mask f p,t.slot j = .empty) ->
  ∃(a b:List Nat) (j:Nat),qA t.mask f p=a++j::b/\(∀x∈a,∃i,t.slot x = .live i/\g i≠h)/\((t.slot j = .empty/\Hg t g h fuel p=some (.empty j none))\/∃i nx,t.slot j = .live i/\g i=h/\Hg t g h fuel p=some (.candidate j i nx))
 | 0,f,p,_,hl,_=>by rw[DO]at hl;simp at hl
 |fuel+1,f,p,hp,hl,he=>by
  unfold Hg
  cases hs:t.slot p.j with
  |empty=>exact⟨[],_,p.j,DO t f p,λx hx=>(Dg hx).elim,.inl ⟨hs,by rw[hp]⟩⟩
  |dummy=>exact u3 hs (hd _)
  |live i=>
   right;by_cases hg:(g i==h)=true
   .rw[y6 hg];exact⟨[],_,p.j,DO t f p,λx hx=>(Dg hx).elim,.inr ⟨i,_,hs,eq_of_beq hg,rfl⟩⟩
   .rw[y8 hg];have st:=DO t f p;obtain⟨j0,jb,e0⟩:=he;rw[st]at jb hl
    have fj:j0∈(if 0<p.more\/0<f then qA t.mask (if 0<p.more then f else f-1) (t.advance p) else []):=by
     rcases Ac.mp jb with z|z
     .rw[z,hs]at e0;cases e0
     .exact z
    split at fj
    .rename_i hc;rw[y6 hc]at hl st;obtain⟨a,b,j,e1,e2,e3⟩:=Qs hd fuel _ (t.advance p) (by rw[w04];exact hp) (by simpa using hl) ⟨j0,fj,e0⟩
     refine⟨p.j::a,b,j,by rw[st,e1];rfl,λx hx=>?_,e3⟩
     rcases Ac.mp hx with z|z
     .exact⟨i,by rw[z];exact hs,λq=>hg (by rw[q];exact beq_self_eq_true h)⟩
     .exact e2 x z
    .exact(Dg fj).elim
theorem Tq(m:Nat):∀f i p,(pY m f i p).length<=10*f
 | 0,_,_=>Ad _
 |f+1,i,p=>by
  unfold pY;rw[Ap,List.length_range']
  have:=Tq m f (Cb m i p).1 (Cb m i p).2
  have:E2 m i<=i+9:=by unfold E2;split<;>omega
  omega
theorem Pn:∀(f i p:Nat),Fa m ow f i p=(pY m f i p).find? λj=>(ow.getD j (some 0)).isNone
 | 0,i,p=>rfl
 |f+1,i,p=>by
  unfold Fa pY;rw[List.find?_append]
  have e:(Lk i (E2 m i+1-i)).find? (λj=>(ow.getD j (some 0)).isNone)=((Aa (E2 m i+1-i)).find? λk=>(ow.getD (i+k) (some 0)).isNone).map (i+·):=by rw[List.range'_eq_map_range,List.find?_map];rfl
  rw[e]
  cases (Aa (E2 m i+1-i)).find? λk=>(ow.getD (i+k) (some 0)).isNone with
  |some k=>rfl
  |none=>right;rw[Pn f];rfl
def hP(p:Int×Int):Int:=reduceHash (C1.Tuple.tupleHashOf [hashInt p.1,hashInt p.2])
def l8:List (Int×Int):=(Aa 7).flatMap λ(a:Nat)=>(Aa 7).map λ(b:Nat)=>((a:Int),(b:Int))
def v0O:∀p∈l8,∀j∈Aa 8,j∈m8 7 (hP p):=by decide +kernel
def Rc:∀p∈l8,∀j∈Aa 32,j∈m8 31 (hP p):=by decide +kernel
def ã:∀p∈l8,∀j,¬j<32->j∉m8 31 (hP p):=λp hp j hj hm=>hj ((by decide +kernel:∀p∈l8,∀j∈m8 31 (hP p),j<32) p hp j hm)
def v0H:∀p∈l8,∀q∈l8,hP p=hP q->p=q:=by decide +kernel
theorem IS{α:Type}[DecidableEq α]:∀{xs ys:List α},xs.Nodup->(∀x∈xs,x∈ys)->xs.length<=ys.length
 | [],_,_,_=>Bh _
 |x::xs,ys,h,hs=>by
  rw[By]at h;have hx:=hs x A6
  have:=IS (ys:=ys.erase x) h.2 λz hz=>(List.mem_erase_of_ne (λ(q:z=x)=>h.1 (q▸hz))).mpr (hs z (A7 _ hz))
  rw[List.length_erase_of_mem hx]at this
  have:=List.length_pos_of_mem hx
  simp only[Au];omega
def IR{t:D4}(h:t.slot j = .live i):t.place[i]?=some j:=by
 unfold M5 at h;dsimp only at h;split at h
 .rename_i e;cases h;exact eq_of_beq e
 .split at h<;>cases h
def PP{t:D4}(hr:pE t.place){j i:Nat}(h:t.place[i]?=some j):t.slot j = .live i:=by
 obtain⟨b1,b2,b3⟩:=yT hr j;obtain⟨hi,e⟩:=Fm.mp h
 have ge:∀k (hk:k<t.place.size),t.place.getD k j=t.place[k]:=λk hk=>by simp[Em,hk]
 have hbi:Be t.place j=i:=by
  rcases Lr i (Be t.place j) with z|z|z
  .have:=b2 i z;rw[ge i hi,e]at this;omega
  .exact z.symm
  .have h1:=b3 _ (Ad _) (Dv z hi);have h2:=AK hr z hi j;rw[ge i hi,e]at h2;omega
 unfold M5;right;rw[hbi,h,y6 (beq_self_eq_true _)]
structure lS(t:D4)(ks:List (Int×Int)):Prop where
 sz:t.place.size=ks.length
 ris:pE t.place
 le:∀j∈t.place.toList,j<=t.mask
 dum:t.dummies = #[]
 msk:t.mask=7\/t.mask=31
 few:ks.length<=t.mask
 small:∀k∈ks,k∈l8
 nd:ks.Nodup
 reach:∀(i j:Nat) (k:Int×Int),t.place[i]?=some j->ks[i]?=some k->∃a b,m8 t.mask (hP k)=a++j::b/\∀x∈a,x∈t.place.toList
 plain:t.plain=true
def lS.nodummy(T:lS t ks)(j:Nat):t.slot j≠.dummy:=λh=>by
 unfold M5 at h;dsimp only at h;split at h
 .cases h
 .rw[T.dum]at h;split at h
  .rename_i z;simp[D4.has]at z
  .cases h
def lS.live(T:lS t ks){j:Nat}(h:j∈t.place.toList):∃i,t.slot j = .live i/\t.place[i]?=some j:=by obtain⟨i,hi⟩:=Ke h;rw[C0]at hi;exact⟨i,PP T.ris hi,hi⟩
theorem lS.empty(T:lS t ks){j:Nat}(h:j∉t.place.toList):t.slot j = .empty:=by
 cases hs:t.slot j with
 |empty=>rfl
 |dummy=>exact u3 hs (T.nodummy j)
 |live i=>
  have:=IR hs
  rw[<-C0]at this;exact u3 (C6 this) h
def lS.cover(T:lS t ks){k:Int×Int}(hk:k∈l8){j:Nat}(hj:j<=t.mask):j∈m8 t.mask (hP k):=by
 rcases T.msk with e|e
 .rw[e]at hj ⊢;exact v0O k hk j (Am.mpr ⋯)
 .rw[e]at hj ⊢;exact Rc k hk j (Am.mpr ⋯)
def lS.hole(T:lS t ks):∃j,j<=t.mask/\j∉t.place.toList:=by
 apply Dq;intro cp
 have:=IS (D2 (n:=t.mask+1)) (ys:=t.place.toList) λj hj=>Dq λz=>cp ⟨j,by have:=Am.mp hj;omega,z⟩
 rw[At,Ar,T.sz]at this
 have:=T.few
 omega
def lS.find(T:lS t ks){k:Int×Int}(hk:k∈l8){g:Nat->Int}(hg:∀(i:Nat) (k':Int×Int),ks[i]?=some k'->g i=hP k'):
  (∃j a b,t.probe g (hP k) (t.probeStart (hP k))=some (.empty j none)/\k∉ks/\j∉t.place.toList/\m8 t.mask (hP k)=a++j::b/\∀x∈a,x∈t.place.toList)\/∃j i nx,t.probe g (hP k) (t.probeStart (hP k))=some (.candidate j i nx)/\ks[i]?=some k:=by
 obtain⟨j0,l0,n0⟩:=T.hole;have rs:=Ċ t (hP k)
 have hl:(qA t.mask (t.mask+14) (t.probeStart (hP k))).length<=10*Lb t.mask:=by rw[<-rs];exact Tq _ _ _ _
 obtain⟨a,b,j,e1,e2,e3⟩:=Qs (g:=g) (h:=hP k) T.nodummy _ _ (t.probeStart (hP k)) rfl hl ⟨j0,by rw[<-rs];exact T.cover hk l0,T.empty n0⟩
 rw[<-rs]at e1
 have av:∀{x i:Nat},t.slot x = .live i->∃k',ks[i]?=some k'/\g i=hP k':=λ{x i} h=>by have h1:=IR h;have h2:=(Fm.mp h1).1;rw[T.sz]at h2;exact⟨ks[i],A4 h2,hg _ _ (A4 h2)⟩
 rcases e3 with⟨es,ep⟩|⟨i,nx,es,eg,ep⟩
 .have hj:j∉t.place.toList:=λz=>by obtain⟨i,hi,_⟩:=T.live z;rw[es]at hi;cases hi
  refine .inl ⟨j,a,b,ep,λhm=>?_,hj,e1,λx hx=>?_⟩
  .obtain⟨i,hi⟩:=Ke hm
   have bA:i<t.place.size:=by rw[T.sz];exact(B0.mp hi).1
   have hp:=D0 bA;obtain⟨a',b',f1,f2⟩:=T.reach i _ k hp hi;have fw:t.place[i]∈t.place.toList:=Array.getElem_mem_toList bA;have jw:t.slot t.place[i] = .live i:=PP T.ris hp;rw[e1]at f1;rcases List.append_eq_append_iff.mp f1 with⟨c,c1,c2⟩|⟨c,c1,c2⟩
   .cases c with
    |nil=>cases c2;exact hj fw
    |cons y c=>cases c2;exact hj (f2 j (by rw[c1];simp))
   .cases c with
    |nil=>cases c2;exact hj fw
    |cons y c=>
     cases c2;obtain⟨i',h1,h2⟩:=e2 t.place[i] (by rw[c1];simp)
     rw[jw]at h1;cases h1;exact h2 (hg i k hi)
  .obtain⟨i,hi,_⟩:=e2 x hx
   have:=IR hi
   rw[<-C0]at this;exact C6 this
 .obtain⟨k',h1,h2⟩:=av es;have bQ:=T.small k' (C6 h1)
  have:k'=k:=v0H k' bQ k hk (h2.symm.trans eg)
  subst this;exact .inr ⟨j,i,nx,ep,h1⟩
def nZ{α:Type}(xs:List α)(p:Nat)(x:α):List α:=xs.take p++x::xs.drop p
def o3{α:Type}(xs:List α)(p:Nat)(x:α):(nZ xs p x).Perm (x::xs):=by unfold nZ;refine List.perm_middle.trans ?_;rw[Fp]
def Sv{α:Type}(xs:List α){p:Nat}(hp:p<=xs.length)(x:α)(i:Nat):(nZ xs p x)[i]?=if i<p then xs[i]? else if i=p then some x else xs[i-1]?:=by
 unfold nZ;by_cases h1:i<p
 .rw[y6 h1,Do (by rw[Eg];omega),List.getElem?_take_of_lt h1]
 .rw[y8 h1,Fi (by rw[Eg];omega),Eg,Mt hp]
  by_cases h2:i=p
  .rw[y6 h2,h2,O5];rfl
  .rw[y8 h2];obtain⟨m,hm⟩:∃m,i-p=m+1:=⟨i-p-1,⋯⟩;rw[hm,Eh,List.getElem?_drop];congr 1;omega
def lS.put(T:lS t ks){k:Int×Int}(hk:k∈l8)(hn:k∉ks){j:Nat}(hj:j∉t.place.toList)(hjm:j<=t.mask){a b:List Nat}(e1:m8 t.mask (hP k)=a++j::b)(e2:∀x∈a,x∈t.place.toList)(hl:ks.length+1<=t.mask):
  (t.put j).2<=ks.length/\lS (t.put j).1 (nZ ks (t.put j).2 k):=by
 have hb:Be t.place j<=ks.length:=by rw[<-T.sz];exact(yT T.ris j).1
 have hsl:t.place[Be t.place j]?≠some j:=KH (.inl (T.empty hj));have au:(t.put j).1.place.toList=nZ t.place.toList (Be t.place j) j:=Ih ..
 have aJ:∀x,x∈(t.put j).1.place.toList↔x=j\/x∈t.place.toList:=λx=>by rw[au,(o3 _ _ _).mem_iff,Ac]
 refine⟨hb,?_,Qh T.ris hsl,λx hx=>?_,?_,T.msk,?_,λq hq=>?_,?_,λi x q h1 h2=>?_,T.plain⟩
 .rw[<-Ar,au,(o3 _ _ _).length_eq,(o3 _ _ _).length_eq,Au,Au,Ar,T.sz]
 .rcases (aJ x).mp hx with z|z
  .rw[z];exact hjm
  .exact T.le x z
 .show (if D4.has t.dummies j=true then _ else t.dummies) = #[];rw[T.dum];rfl
 .rw[(o3 _ _ _).length_eq];exact hl
 .rcases Ac.mp ((o3 _ _ _).mem_iff.mp hq) with z|z
  .rw[z];exact hk
  .exact T.small q z
 .rw[(o3 _ _ _).nodup_iff,By];exact⟨hn,T.nd⟩
 .rw[<-C0,au,Sv _ (by rw[Ar,T.sz];exact hb)]at h1
  have bh:(nZ ks (Be t.place j) k)[i]?=some q:=h2;rw[Sv _ hb]at bh;show ∃a b,m8 t.mask (hP q)=a++x::b/\_
  have old:∀i',t.place.toList[i']?=some x->ks[i']?=some q->∃a b,m8 t.mask (hP q)=a++x::b/\∀x∈a,x∈(t.put j).1.place.toList:=λi' q1 q2=>by rw[C0]at q1;obtain⟨a',b',f1,f2⟩:=T.reach i' x q q1 q2;exact⟨a',b',f1,λy hy=>(aJ y).mpr (.inr (f2 y hy))⟩
  split at h1
  .rename_i hc;rw[y6 hc]at bh;exact old i h1 bh
  .rename_i hc;rw[y8 hc]at bh;split at h1
   .rename_i aY;rw[y6 aY]at bh;cases h1;cases bh;exact⟨a,b,e1,λy hy=>(aJ y).mpr (.inr (e2 y hy))⟩
   .rename_i aY;rw[y8 aY]at bh;exact old _ h1 bh
def mZ(ow:Array (Option Nat)):List (Nat×Nat):=(Aa 32).filterMap λj=>(ow.getD j none).map (j,·)
structure yN(ow:Array (Option Nat))(ks:List (Int×Int)):Prop where
 sz:ow.size=32
 perm:((mZ ow).map (·.2)).Perm (Aa ks.length)
 reach:∀(j i:Nat) (k:Int×Int),ow.getD j none=some i->ks[i]?=some k->∃a b,m8 31 (hP k)=a++j::b/\∀x∈a,(ow.getD x none).isSome=true
theorem BX{α β:Type}{f g:α->Option β}:∀{L:List α},(∀x∈L,f x=g x)->L.filterMap f=L.filterMap g
 | [],_=>rfl
 |x::L,h=>by rw[Cs,Cs,h x A6,BX λy hy=>h y (A7 _ hy)]
theorem Ua{f f':Nat->Option (Nat×Nat)}{v:Nat×Nat}(h0:f j=none)(h1:f' j=some v)(h2:∀x,x≠j->f' x=f x):∀{L:List Nat},L.Nodup->j∈L->(L.filterMap f').Perm (v::L.filterMap f)
 | [],_,h=>(Dg h).elim
 |x::L,hn,h=>by
  rw[By]at hn;by_cases e:x=j
  .subst e;rw[Cs,h1,Cs,h0];right
   have:L.filterMap f'=L.filterMap f:=BX λy hy=>h2 y λq=>hn.1 (q▸hy)
   rw[this]
  .have hm:j∈L:=(Ac.mp h).resolve_left λq=>e q.symm;have ih:=Ua h0 h1 h2 hn.2 hm;rw[Cs,h2 x e,Cs]
   cases f x with
   |none=>exact ih
   |some y=>exact(ih.cons y).trans (Jj _ _ _)
theorem T9{α β:Type}{f:α->Option β}:∀{L:List α},(∀x∈L,(f x).isSome=true)->(L.filterMap f).length=L.length
 | [],_=>rfl
 |x::L,h=>by obtain⟨y,e⟩:=Ds.mp (h x A6);rw[Cs,e];simp[T9 λz hz=>h z (A7 _ hz)]
theorem yN.step(O:yN ow ks){k:Int×Int}(hk:k∈l8)(hl:ks.length<=30):
  ∃j,Fa 31 ow (Lb 31) (Fd (hP k) % (31+1)) (Fd (hP k))=some j/\yN (ow.setIfInBounds j (some ks.length)) (ks++[k]):=by
 have ab:(mZ ow).length=ks.length:=by have:=O.perm.length_eq;rwa [A3,At]at this
 obtain⟨j0,jb,e0⟩:∃j∈Aa 32,ow.getD j none=none:=by
  apply Dq;intro cp
  have h1:(mZ ow).length=(Aa 32).length:=T9 λj hj=>by
   cases h:ow.getD j none with
   |none=>exact u3 ⟨j,hj,h⟩ cp
   |some i=>rfl
  rw[ab,At]at h1;omega
 have fw:∀j,j<32->ow.getD j (some 0)=ow.getD j none:=λj hj=>by simp[Em,O.sz,hj]
 have bp:∀j,¬j<32->ow.getD j (some 0)=some 0:=λj hj=>by simp[Em,O.sz,hj]
 cases hf:(m8 31 (hP k)).find? λj=>(ow.getD j (some 0)).isNone with
 |none=>
  have:=List.find?_eq_none.mp hf j0 (Rc k hk j0 jb)
  rw[fw j0 (Am.mp jb),e0]at this;simp at this
 |some j=>
  obtain⟨hjp,a,b,e1,e2⟩:=List.find?_eq_some_iff_append.mp hf
  have hj:j<32:=Dq λz=>by rw[bp j z]at hjp;cases hjp
  rw[fw j hj]at hjp
  have da:ow.getD j none=none:=by simpa using hjp
  have gd:∀x,(ow.setIfInBounds j (some ks.length)).getD x none=if x=j then some ks.length else ow.getD x none:=λx=>by
   have hs:j<ow.size:=by rw[O.sz];exact hj
   by_cases e:x=j
   .subst e;simp[Em,hs]
   .rw[y8 e];by_cases hx:x<ow.size
    .simp[Em,hx,Array.getElem_setIfInBounds,Cz e]
    .simp[Em,hx]
  have up:∀x,(ow.getD x none).isSome=true->((ow.setIfInBounds j (some ks.length)).getD x none).isSome=true:=λx hx=>by
   rw[gd];split
   .rfl
   .exact hx
  refine⟨j,(Pn _ _ _).trans hf,by simpa using O.sz,?_,λx i q h1 h2=>?_⟩
  .have p1:(mZ (ow.setIfInBounds j (some ks.length))).Perm ((j,ks.length)::mZ ow):=Ua (by rw[da];rfl) (by rw[gd,y6 rfl];rfl) (λx hx=>by rw[gd,y8 hx]) D2 (Am.mpr hj)
   refine(p1.map (·.2)).trans ?_;rw[Ai,Ap];show (ks.length::(mZ ow).map (·.2)).Perm (Aa (ks.length+1));rw[Kn];exact(O.perm.cons _).trans (Hq _ _).symm
  .rw[gd]at h1;split at h1
   .rename_i e;subst e;cases h1;rw[Fi (Ad _),O5]at h2;cases h2;refine⟨a,b,e1,λy hy=>up y ?_⟩
    have:=e2 y hy
    by_cases hy2:y<32
    .rw[fw y hy2]at this
     cases h:ow.getD y none with
     |none=>rw[h]at this;cases this
     |some _=>rfl
    .rw[bp y hy2]at this;have hc:y∉m8 31 (hP k):=λz=>?_
     .exact u3 (by rw[e1];simp[hy]) hc
     .exact u3 z (ã k hk y hy2)
   .have hi:i∈Aa ks.length:=by
     rw[<-O.perm.mem_iff]
     have gh:x<32:=Dq λz=>by
      have:ow.getD x none=none:=by simp[Em,O.sz,z]
      rw[this]at h1;cases h1
     exact Aq.mpr ⟨(x,i),Ew.mpr ⟨x,Am.mpr gh,by rw[h1];rfl⟩,rfl⟩
    rw[Do (Am.mp hi)]at h2;obtain⟨a',b',f1,f2⟩:=O.reach x i q h1 h2;exact⟨a',b',f1,λy hy=>up y (f2 y hy)⟩
def MX(af:Option (Array (Option Nat)×Nat))(h:Int):Option (Array (Option Nat)×Nat):=do
 let (owner,k) <-af
 let j <-Fa 31 owner (Lb 31) (Fd h % (31+1)) (Fd h)
 Ci (owner.setIfInBounds j (some k),k+1)
def Yn{n j:Nat}(e:Fa 31 ow (Lb 31) (Fd h % (31+1)) (Fd h)=some j):MX (some (ow,n)) h=some (ow.setIfInBounds j (some n),n+1):=by unfold MX;simp only[Option.bind_eq_bind,Option.bind_some];rw[e];rfl
theorem v04(ks:List (Int×Int)):∀(done:List (Int×Int)) (ow:Array (Option Nat)),yN ow done->(∀k∈ks,k∈l8)->done.length+ks.length<=31 ->
  ∃ow',(ks.map hP).foldl MX (some (ow,done.length))=some (ow',done.length+ks.length)/\yN ow' (done++ks):=by
 induction ks with
 |nil=>exact λdone ow O _ _=>⟨ow,rfl,by rw[Cr];exact O⟩
 |cons k ks ih=>
  intro done ow O hs hl;rw[Au]at hl;obtain⟨j,e,O'⟩:=O.step (hs k A6) ⋯;obtain⟨ow',e',O''⟩:=ih (done++[k]) _ O' (λq hq=>hs q (A7 _ hq)) (by rw[Ap,Bg];omega)
  refine⟨ow',?_,by rw[Cp]at O'';exact O''⟩
  rw[Ai,Ik,Yn e];rw[Ap,Bg]at e';rw[e',Au,Nat.add_assoc,Nat.add_comm 1]
def Í:yN (Array.replicate 32 none) []:=⟨by simp,‹_›,λj i k _ h=>by simp at h⟩
theorem LY{α:Type}{xs:List α}:∀{L:List Nat},(∀i∈L,i<xs.length)->∀n:Nat,(L.filterMap (xs[·]?))[n]?=L[n]?.bind (xs[·]?)
 | [],_,n=>by simp
 |i::L,h,n=>by
  have hi:=h i A6;rw[Cs,A4 hi]
  cases n with
  |zero=>simp[hi]
  |succ n=>exact LY (λq hq=>h q (A7 _ hq)) n
def AG{α:Type}{xs:List α}{L:List Nat}(h:L.Perm (Aa xs.length)):(L.filterMap (xs[·]?)).Perm xs:=by
 refine(h.filterMap _).trans ?_
 have:(Aa xs.length).filterMap (xs[·]?)=xs:=by
  apply Jl;intro n;rw[LY λi hi=>Am.mp hi];by_cases hn:n<xs.length
  .rw[F8 hn];rfl
  .rw[Fq (by simpa using hn),Fq (by simpa using hn)];rfl
 rw[this]
def lS.relay(T:lS t ks)(hl:ks.length<=18){hs:Array Int}(he:hs.toList=ks.map hP):
  ∃t' aM,Nl 31 t.finger (t.movedTo 31) t.led t.plain hs=some (t',aM)/\aM.toList.Perm (Aa ks.length)/\lS t' (aM.toList.filterMap (ks[·]?))/\t'.mask=31/\t'.led=t.led:=by
 obtain⟨ow,e1,O⟩:=v04 ks [] _ Í T.small (by simp;omega)
 have ec:Lp 31 hs=some ow:=by unfold Lp;rw[<-Array.foldl_toList,he];exact lE (Option.map _) e1
 rw[Kj]at O;have ak:∀i∈(mZ ow).map (·.2),i<ks.length:=λi hi=>Am.mp (O.perm.mem_iff.mp hi);refine⟨{ mask:=31,place:=((mZ ow).map (·.1)).toArray,dummies:=#[],finger:=t.finger,led:=t.led,moves:=t.movedTo 31,plain:=t.plain },((mZ ow).map (·.2)).toArray,by unfold Nl;rw[ec];rfl,?_,⟨?_,?_,?_,rfl,.inr rfl,?_,?_,?_,?_,T.plain⟩,rfl,rfl⟩
 .exact O.perm
 .show ((mZ ow).map (·.1)).toArray.size=(((mZ ow).map (·.2)).filterMap _).length;rw[(AG O.perm).length_eq]
  have:=O.perm.length_eq
  simpa using this
 .show Ii _ ((mZ ow).map (·.1));unfold mZ;rw[Bu,Iv];refine E5.imp λ{a b} bW p hp q hq=>?_;obtain⟨k,_,rfl⟩:=B5.mp hp;obtain⟨m,_,rfl⟩:=B5.mp hq;exact bW
 .intro j hj;have cQ:j∈(mZ ow).map (·.1):=hj;obtain⟨⟨x,i⟩,hm,rfl⟩:=Aq.mp cQ;obtain⟨y,hy,e⟩:=Ew.mp hm;obtain⟨_,_,e⟩:=B5.mp e;cases e
  have:=Am.mp hy
  exact Nat.le_of_lt_succ this
 .rw[(AG O.perm).length_eq];show ks.length<=31;omega
 .intro k hk;exact T.small k ((AG O.perm).mem_iff.mp hk)
 .exact(AG O.perm).nodup_iff.mpr T.nd
 .intro n j k h1 h2
  have cJ:((mZ ow).map (·.1))[n]?=some j:=by simpa using h1
  have bh:(((mZ ow).map (·.2)).filterMap (ks[·]?))[n]?=some k:=h2;rw[LY ak]at bh;rw[Ao]at cJ bh
  cases hn:(mZ ow)[n]? with
  |none=>rw[hn]at cJ;cases cJ
  |some p=>
   rw[hn]at cJ bh;cases cJ;obtain⟨y,hy,e⟩:=Ew.mp (C6 hn);obtain⟨i,ei,e⟩:=B5.mp e;cases e;obtain⟨a,b,f1,f2⟩:=O.reach y i k ei bh;refine⟨a,b,f1,λx hx=>?_⟩;obtain⟨i',bL⟩:=Ds.mp (f2 x hx)
   have gh:x<32:=Dq λz=>by
    have:ow.getD x none=none:=by simp[Em,O.sz,z]
    rw[this]at bL;cases bL
   show x∈(mZ ow).map (·.1);exact Aq.mpr ⟨(x,i'),Ew.mpr ⟨x,Am.mpr gh,by rw[bL];rfl⟩,rfl⟩
section
variable{prog:Bs}{w:Ce}{A:Bz}{E:VP}{s:Ae}
abbrev pM(prog:Bs)(w:Ce)(h:Ch)(k:Int×Int)(a:As):Prop:=IsTupleKey (Fn prog w) h [k.1,k.2] a
def YA(k:Int×Int):tupleKeyHash (Fn prog w) [k.1,k.2]=hP k:=rfl
def S5{Q:Bool->Ae->Prop}(hk:pM prog w s.heap k a)(h:Q false s):Ah (Aw prog w) A (Ls 8 (.ref a)) Q E s:=by
 have hT:=hk.typeIs;obtain⟨o,items,n,ho,_,hd,hi⟩:=hk;unfold Ls;refine A0 (F9 hT ?_);right;refine A0 (x6 ?_);simp only[Fe,B4,if_false];refine A0 (En ho hd ?_);right;refine A0 ?_;rw[<-Array.forIn_toList];refine Gd _ (λrest r s'=>r.1=none/\s'=s/\∃ks,ItemsAre (Fn prog w) ks rest) _ ?_ ?_ _ _ ⟨rfl,rfl,_,hi⟩
 .rintro v rest r s' ⟨hr,rfl,ks,bC⟩
  cases bC with
  | @cons k' _ jg _ h1 h2=>obtain⟨t,rfl⟩:=Ld h1;unfold Ls;refine A0 (x6 ?_);simp only[B4,if_false];exact x6 ⟨rfl,rfl,jg,h2⟩
 .rintro ⟨r1,r2⟩ s' ⟨hr,rfl,_⟩;simp only at hr;subst hr;exact x6 h
def ϭ{Q:Bool->Ae->Prop}(hk:pM prog w s.heap k a)(h:Q true s):Ah (Aw prog w) A (Og 8 (.ref a)) Q E s:=by
 have hT:=hk.typeIs;obtain⟨o,items,n,ho,_,hd,hi⟩:=hk;unfold Og;refine A0 (F5 hT F.slot_tuple_hash.lookup ?_);right;refine A0 (En ho hd ?_);refine A0 ?_;show Ah _ _ (forIn items _ _) _ _ s;rw[<-Array.forIn_toList];refine Gd _ (λrest r s'=>r.1=none/\s'=s/\∃ks,ItemsAre (Fn prog w) ks rest) _ ?_ ?_ _ _ ⟨rfl,rfl,_,hi⟩
 .rintro v rest r s' ⟨hr,rfl,ks,bC⟩
  cases bC with
  | @cons k' _ jg _ h1 h2=>obtain⟨t,rfl⟩:=Ld h1;unfold Og;refine A0 (x6 ?_);simp only[Fe,B4,if_false];exact x6 ⟨rfl,rfl,jg,h2⟩
 .rintro ⟨r1,r2⟩ s' ⟨hr,rfl,_⟩;simp only at hr;subst hr;exact x6 h
def VX{ys:List A9}{Q:Bool->Ae->Prop}(hk:pM prog w s.heap k a)(hy:∀y∈ys,∃q b,y = .ref b/\pM prog w s.heap q b)(h:Q false s):Ah (Aw prog w) A (searchCouldBeSeen (.ref a) ys) Q E s:=by
 unfold searchCouldBeSeen;refine A0 ?_;refine Gd _ (λrest r s'=>r.1=none/\s'=s/\∀y∈rest,∃q b,y = .ref b/\pM prog w s.heap q b) _ ?_ ?_ _ _ ⟨rfl,rfl,hy⟩
 .rintro v rest r s' ⟨hr,rfl,hv⟩;obtain⟨q,b,rfl,hb⟩:=hv v A6;have bM:=λy hy=>hv y (A7 _ hy);right;split
  .exact x6 ⟨rfl,rfl,bM⟩
  .refine A0 (wpAny_eqIsQuiet_tuple hk ?_);simp only[Fe,B4,if_false];refine A0 (wpAny_eqIsQuiet_tuple hb ?_);simp only[Fe,B4,if_false];refine A0 (S5 hk ?_);simp only[B4,if_false];refine A0 (S5 hb ?_);simp only[B4,if_false];exact x6 ⟨rfl,rfl,bM⟩
 .rintro ⟨r1,r2⟩ s' ⟨hr,rfl,_⟩;simp only at hr;subst hr;exact x6 h
abbrev BF(p:(Int×Int)×As):Int×A9:=(hP p.1,.ref p.2)
def rL(prog:Bs)(w:Ce)(h:Ch)(S:As)(ps:List ((Int×Int)×As)):Prop:=∃o es ep t,h.get? S=some o/\o.ExactSet/\o.data = .set es ep t/\es.toList=ps.map BF/\lS t (ps.map (·.1))/\t.tooFull=false/\t.led = !oF w/\∀p∈ps,p.2<S/\pM prog w h p.1 p.2
def CU{h h':Ch}(hp:pM prog w h k a)(e:∀o,h.get? a=some o->h'.get? a=some o):pM prog w h' k a:=by obtain⟨o,it,n,ho,z⟩:=hp;exact⟨o,it,n,e o ho,z⟩
def lS.fits(T:lS t ks){n:Nat}(e:n=ks.length):t.fits n=true:=by
 unfold D4.fits D4.fill;rw[T.dum,T.sz,e]
 have:=T.few
 simp[this]
def lS.inRoad{m:Nat}(hm:m=7\/m=31){k:Int×Int}(hk:k∈l8){j:Nat}(hj:j∈m8 m (hP k)):j<=m:=by
 rcases hm with rfl|rfl
 .exact(by decide +kernel:∀k∈l8,∀j∈m8 7 (hP k),j<=7) k hk j hj
 .exact(by decide +kernel:∀k∈l8,∀j∈m8 31 (hP k),j<=31) k hk j hj
def rL.frame{h h':Ch}(G:rL prog w h S ps)(k:∀b o,b<=S->h.get? b=some o->h'.get? b=some o):rL prog w h' S ps:=by obtain⟨o,es,ep,t,ho,h1,h2,h3,h4,h5,h6,h7⟩:=G;exact⟨o,es,ep,t,k _ _ (Ad _) ho,h1,h2,h3,h4,h5,h6,λp hp=>⟨(h7 p hp).1,CU (h7 p hp).2 λo e=>k _ o (Dc (h7 p hp).1) e⟩⟩
def FH(T:lS t ks):t.fill=ks.length:=by unfold D4.fill;rw[T.dum,T.sz];rfl
def Sw{α β:Type}(f:α->β)(xs:List α)(p:Nat)(x:α):(nZ xs p x).map f=nZ (xs.map f) p (f x):=by unfold nZ;rw[B9,Ai,Nm,List.map_drop]
def RW{h0:Ch}{S:As}{o0:Ka}{es0 aV:Array (Int×A9)}{ps:List ((Int×Int)×As)}(g0:h0.get? S=some o0)(x0:o0.ExactSet)(d0:o0.data = .set es0 eT t0)(e2:aV.toList=ps.map BF)(T2:lS t2 (ps.map (·.1)))(l2:t2.led = !oF w)(hp:∀p∈ps,p.2<S/\pM prog w h0 p.1 p.2):
  (h0.update S (Ho aV t2)).get? S=some { o0 with data:=.set aV (eT+1) t2 }/\(t2.tooFull=false->rL prog w (h0.update S (Ho aV t2)) S ps):=by
 have hg:(h0.update S (Ho aV t2)).get? S=some { o0 with data:=.set aV (eT+1) t2 }:=by
  have:=C9 (Ho aV t2) g0 (by rw[O8 aV t2 d0];rfl)
  rw[O8 aV t2 d0]at this;exact this
 exact⟨hg,λf2=>⟨_,aV,eT+1,t2,hg,x0,rfl,e2,T2,f2,l2,λp hq=>⟨(hp p hq).1,CU (hp p hq).2 λo e=>((Bp h0 S _).2 _ (An (hp p hq).1)).trans e⟩⟩⟩
def v2H{k:Int×Int}{Q:Bool->Ae->Prop}(hu:A.units<D8)(hS:rL prog w s.heap S ps)(hk:k∈l8)(ha:pM prog w s.heap k a)(haS:a<S)(hl:ps.length+1<=18)(h:∀b h' tk ci,Dd S s.heap h'->rL prog w h' S ci->(∀x,x∈ci.map (·.1)↔x∈ps.map (·.1)\/x=k)->ci.length<=ps.length+1->(∀p∈ci,p∈ps\/p=(k,a))->Q b { s with heap:=h',toks:=tk }):
  Ah (Aw prog w) A (Nu S (.ref a)) Q E s:=by
 unfold Nu;refine Ca (A0 (wpAny_pyHash_tuple hu ha ?_));rw[YA];generalize s.toks+([k.1,k.2].length+1)=tk;have hS0:=hS;obtain⟨o,es,ep,t,ho,bJ,hd,he,T,hf,hL,hp⟩:=hS
 have hes:es.size=(ps.map (·.1)).length:=by rw[<-Ar,he,A3,A3]
 have ck:=T.fits hes;unfold O4 setAddHashedIn;refine Ca (A0 (D5 ho hd ck ?_));right;rw[show byScan (.ref a) es=false from rfl];simp only[B4,↓reduceIte];refine A0 ?_;unfold setSearch setSearchFrom;refine A0 (D5 ho hd ck ?_);right
 have hgw:t.gaveWay=false:=by unfold D4.gaveWay;rcases T.msk with e|e<;>rw[e]<;>rfl
 rw[hgw];simp only[B4,↓reduceIte]
 have gE:∀(i:Nat) (q:Int×Int),(ps.map (·.1))[i]?=some q->∃p,ps[i]?=some p/\p.1=q/\es[i]?=some (BF p):=λi q e=>by
  rw[Ao]at e
  cases hp:ps[i]? with
  |none=>rw[hp]at e;cases e
  |some p=>rw[hp]at e;refine⟨p,rfl,by simpa using e,?_⟩;rw[<-C0,he,Ao,hp];rfl
 have hg:∀(i:Nat) (q:Int×Int),(ps.map (·.1))[i]?=some q->((es[i]?.map (·.1)).getD 0)=hP q:=λi q e=>by obtain⟨p,_,e2,e3⟩:=gE i q e;rw[e3,<-e2,Option.map_some,Option.getD_some]
 rcases T.find hk hg with⟨j,ra,rb,fS,hn,hj,e1,e2⟩|⟨j,i,nx,fS,hi⟩
 .split
  .rename_i met hm;cases fS.symm.trans hm;refine x6 ?_;right;refine A0 (D5 ho hd ck ?_);right;have hjm:j<=t.mask:=lS.inRoad T.msk hk (by rw[e1];simp)
   have fF:(ps.map (·.1)).length+1<=t.mask:=by
    have h4:t.mask=7->ps.length<=4:=λe=>by
     unfold Mi at hf;rw[FH T,e,A3]at hf
     have:=qJ hf
     omega
    rw[A3];rcases T.msk with e|e
    .have:=h4 e;omega
    .omega
   obtain⟨hb,T2⟩:=T.put hk hn hj hjm e1 e2 fF;have au:(t.put j).1.plain=true:=T.plain;rw[y6 au];refine A0 (ϭ ha ?_);simp only[if_true]
   have cq:(G5 es (t.put j).2 (hP k,Co a)).toList=(nZ ps (t.put j).2 (k,a)).map BF:=by rw[Sw,Ih,he];rfl
   have T3:lS (t.put j).1 ((nZ ps (t.put j).2 (k,a)).map (·.1)):=by rw[Sw];exact T2
   have hp3:∀p∈nZ ps (t.put j).2 (k,a),p.2<S/\pM prog w s.heap p.1 p.2:=λp hq=>by
    rcases Ac.mp ((o3 _ _ _).mem_iff.mp hq) with z|z
    .rw[z];exact⟨haS,ha⟩
    .exact hp p z
   have aJ:∀(ci:List ((Int×Int)×As)),ci.Perm (nZ ps (t.put j).2 (k,a))->(∀x,x∈ci.map (·.1)↔x∈ps.map (·.1)\/x=k)/\ci.length<=ps.length+1/\∀p∈ci,p∈ps\/p=(k,a):=λci pp=>by
    have pq:=pp.trans (o3 _ _ _);refine⟨λx=>?_,by rw[pq.length_eq];exact Ad _,λp hp=>(Ac.mp (pq.mem_iff.mp hp)).symm⟩
    rw[(pq.map (·.1)).mem_iff,Ai,Ac];exact Or.comm
   have hsz:(G5 es (t.put j).2 (hP k,Co a)).size=ps.length+1:=by rw[<-Ar,cq,A3,(o3 _ _ _).length_eq];rfl
   obtain⟨g1,G1⟩:=RW (prog:=prog) (w:=w) ho bJ hd cq T3 hL hp3;refine A0 (Jk ho hd ?_ (by rw[hsz,Bk];omega))
   split
   .rename_i htf
    have cU:(t.put j).1.tooFull=true:=by simpa using htf
    have h5:t.mask=7/\ps.length=4:=by unfold Mi at cU hf;rw[FH T2,(o3 _ _ _).length_eq,Au,A3]at cU;rw[FH T,A3]at hf;have hmk:(t.put j).1.mask=t.mask:=rfl;rw[hmk]at cU;have z1:=lZ cU;have z2:=qJ hf;rcases T.msk with e|e<;>rw[e]at z1 z2<;>omega
    refine A0 ?_;unfold setRelay;refine A0 (D5 g1 rfl (T3.fits (by rw[hsz,A3,(o3 _ _ _).length_eq];rfl)) ?_)
    right
    have e20:La (F3 (es.size+1))=32:=by rw[hes,A3,h5.2];rfl
    rw[e20,y8 (by rw[Bk];decide)]
    obtain⟨t',aM,f1,f2,f3,f4,f5⟩:=T3.relay (by rw[A3,(o3 _ _ _).length_eq,Au];omega) (hs:=(G5 es (t.put j).2 (hP k,Co a)).map (·.1)) (by rw[Array.toList_map,cq,B2,B2];rfl)
    have er:(t.put j).1.relaid ((G5 es (t.put j).2 (hP k,Co a)).map (·.1)) (F3 (es.size+1))=some (t',aM):=by unfold D4.relaid;rw[e20];exact f1
    rw[er];generalize hE:G5 es (t.put j).2 (hP k,Co a)=aV at *;generalize hP2:nZ ps (t.put j).2 (k,a)=ps2 at *;rw[A3]at f2;have p4:=AG (xs:=ps2) f2
    have e4:(aM.filterMap (aV[·]?)).toList=(aM.toList.filterMap (ps2[·]?)).map BF:=by rw[Array.toList_filterMap,List.map_filterMap];refine BX λi _=>?_;rw[<-C0,cq,Ao]
    have s4:(aM.filterMap (aV[·]?)).size=aV.size:=by rw[<-Ar,e4,A3,p4.length_eq,<-Ar,cq,A3]
    refine A0 ?_;show Ah _ _ (if ((aM.filterMap (aV[·]?)).size != aV.size)=true then _ else _) _ _ _;rw[y8 (by rw[s4];simp)]
    refine x6 ?_;right
    have e5:aM.toList.filterMap ((ps2.map (·.1))[·]?)=(aM.toList.filterMap (ps2[·]?)).map (·.1):=by rw[List.map_filterMap];exact BX λi _=>Ao ..
    rw[e5]at f3;obtain⟨g2,G2⟩:=RW (prog:=prog) (w:=w) g1 bJ rfl e4 f3 (f5.trans hL) λp hq=>⟨(hp3 p (p4.mem_iff.mp hq)).1,CU (hp3 p (p4.mem_iff.mp hq)).2 λo e=>((Bp s.heap S _).2 _ (An (hp3 p (p4.mem_iff.mp hq)).1)).trans e⟩;obtain⟨m1,m2,m3⟩:=aJ _ p4;refine Jk g1 rfl (x6 (h _ _ tk _ ((Bp s.heap S _).trans (Bp _ S _)) (G2 ?_) m1 m2 m3)) (by rw[s4,hsz,Bk];omega)
    unfold Mi;rw[FH f3,f4,A3,p4.length_eq,<-hP2,(o3 _ _ _).length_eq,Au,h5.2];rfl
   .rename_i htf
    have cU:(t.put j).1.tooFull=false:=by simpa using htf
    obtain⟨m1,m2,m3⟩:=aJ _ (F2 _);exact x6 (h _ _ tk _ (Bp s.heap S _) (G1 cU) m1 m2 m3)
  .rename_i hm;exact u3 fS (hm _)
 .split
  .rename_i met hm;cases fS.symm.trans hm;right;obtain⟨p,q1,q2,q3⟩:=gE i k hi;obtain⟨hpS,fE⟩:=hp p (C6 q1);have hm:k∈ps.map (·.1):=C6 hi;rw[q3];right;have fin:Ah (Aw prog w) A (Ci false) Q E { s with toks:=tk }:=x6 (h _ s.heap tk ps (Dd.refl S s.heap) hS0 (λx=>⟨.inl,λz=>z.elim id λq=>q▸hm⟩) (E9 _) λ_=>.inl)
   have hd1:decide ([p.1.1,p.1.2]=[k.1,k.2])=true:=by rw[q2];exact Y1 rfl
   cases hled:t.led with
   |true=>simp only[Fe,B4,if_false];refine A0 (Ca (wpAny_eqBool_tuple hu fE ha ?_));rw[hd1];exact A0 (D5 ho hd ck (x6 fin))
   |false=>
    simp only[Bool.not_false,if_true];refine A0 (VX ha (λy hy=>?_) ?_)
    .obtain⟨e,he1,rfl⟩:=Aq.mp hy
     have cP:e∈es.toList:=by rw[Array.toList_filter]at he1;exact(B7.mp he1).1
     rw[he]at cP;obtain⟨q,hq,rfl⟩:=Aq.mp cP;exact⟨q.1,q.2,rfl,(hp q hq).2⟩
    .simp only[B4,if_false];refine A0 (Ca (wpAny_eqBool_tuple hu fE ha ?_));rw[hd1];exact A0 (D5 ho hd ck (x6 fin))
  .rename_i hm;exact u3 fS (hm _)
end
section
variable{prog:Bs}{w:Ce}{A:Bz}{E:VP}{s:Ae}{a:As}
def vU(w:Ce)(h:Ch)(a:As)(vs:List A9):Prop:=∃o es ep t,h.get? a=some o/\o.ExactSet/\o.data = .set es ep t/\es.toList.map (·.2)=vs/\es.size<scanBound/\t.fits es.size=true/\pE t.place/\t.led=(!oF w)/\t.plain=true
theorem v20{Q:VP}(hh:A.handled=none)(hG:vU w s.heap a vs)
  (h:∀(it:As) (s':Ae) (cf:List A9) (St:Nat->Ch->Prop) (fp:List As),(∃hp d,s'={ s with heap:=hp,drawn:=d })->(∀b ob,s.heap.get? b=some ob->s'.heap.get? b=some ob)->cf.Perm vs->(∀b∈fp,b<s'.heap.objs.size)->it∈fp->(∀b∈fp,b=a\/s.heap.objs.size<=b)->s'.TypeIs (.ref it) "set_iterator" ->
   St 0 s'.heap->Nf prog w A.in1 it fp [it] cf.length (λi v=>cf[i]?=some v) St->Q (.ref it) s'):
  Ah (Aw prog w) A (Nq (.ref a)) Q E s:=by
 obtain⟨o,es,ep,t,ho,bJ,hd,rfl,hb,hf,ix,hL0,au⟩:=hG;have eB:s.TypeIs (.ref a) "set":=⟨o,ho,bJ.1⟩
 have ck:t.place.size=es.size:=by unfold D4.fits at hf;simp only[B8,beq_iff_eq]at hf;exact hf.1
 refine Lq eB F.slot_set_iter (Ct F.slot_set_iter eB Xb ?_ (F.args_set_iter_1 _));unfold C1.«frozenset.__iter__» C1.Frozenset.slot0;refine A0 (A0 (Cn (show slotArgs "__iter__" 0 ⟨[.ref a],[]⟩=Ci (.ref a,[]) from rfl) ?_));show Ah _ _ (Ci a) _ _ s;refine x6 ?_;unfold C1.Frozenset.sizeOf;refine A0 (A0 (Kr ho hd hf (x6 ?_)))
 unfold setDrawn;refine A0 (A0 (D5 ho hd hf ?_));right;unfold Nv;refine A0 (A0 (Gi (x6 ?_)))
 have fS:∀(s1:Ae) {A1:Bz} {E1:VP} {Q1:Nat->Ae->Prop},s1.heap.get? a=some o->Q1 ep s1->Ah (Aw prog w) A1 (setEpoch a) Q1 E1 s1:=λs1 {A1 E1 Q1} g q=>by unfold setEpoch;exact A0 (D5 g hd hf (x6 q))
 show Ah _ _ (Ci (!oF w&&_) >>= _) _ _ s;refine A0 (x6 ?_);have iR:a<s.heap.objs.size:=Aj ho
 have num:∀(slot:Nat->Nat) (cf:List A9),slot 0=0->cf.length=es.size->cf.Perm (es.toList.map (·.2)) ->
   (∀i x,cf[i]?=some x->∀(s1:Ae),s1.heap.get? a=some o->∀(A':Bz) (Q':Option (A9×Nat)->Ae->Prop) (E':VP),Q' (some (x,slot (i+1))) s1->Ah (Aw prog w) A' (Kv a (slot i) i ep) Q' E' s1) ->
   (∀(s1:Ae),s1.heap.get? a=some o->∀(A':Bz) (Q':Option (A9×Nat)->Ae->Prop) (E':VP),Q' none s1->Ah (Aw prog w) A' (Kv a (slot es.size) es.size ep) Q' E' s1) ->
   Ah (Aw prog w) A.in1 (do
    let e <-setEpoch a
    let r <-newFields "set_iterator" [rawInt 0,rawInt 0,.ref a,rawInt es.size,rawInt e]
    ret r) (λfin s'=>∃v,fin = .done (.ret v)/\∃T' r,s'.TypeIs v T'/\L5 (.type T') "__next__" = Ci (some r)/\Q v s') E s:=λslot cf h0 hl hp hn1 iH=>by
  refine A0 (fS s ho ?_);unfold newFields;refine A0 (Bc (x6 ⟨_,rfl,"set_iterator",_,⟨_,Ak _ rfl,rfl⟩,wW.lookup,?_⟩) (by size_fits));refine h s.heap.objs.size _ cf (λi hp=>hp.get? a=some o/\hp.get? s.heap.objs.size=some (xY (rawInt (slot i)) i a es.size ep)) [s.heap.objs.size,a] ⟨_,s.drawn,rfl⟩ (λb ob e=>A8 _ e) hp (λb hb=>?_) A6 (λb hb=>(Ac.mp hb).elim (λz=>.inr (z▸Ad _)) λz=>.inl (Ag.mp z)) ⟨_,Ak _ rfl,rfl⟩ ⟨A8 _ ho,by rw[h0];exact Ak _ rfl⟩ ⟨λb hb=>?_,λi h1 h2 st hk=>⟨hk _ (by simp) _ st.1,hk _ (by simp) _ st.2⟩,λi s1 Q1 E1 bA st hQ=>?_,λs1 Q1 E1 st hQ=>?_,λi s1 Q1 E1 st q=>?_⟩
  .rw[Dx];rcases Ac.mp hb with z|z
   .rw[z];exact E4 _
   .rw[Ag.mp z];exact C5 iR
  .simp at hb;simp[hb]
  .have hx:=A4 bA;refine Yv (slot:=slot i) (nx:=slot (i+1)) st.2 st.1 hd hf rfl (λA' Q' E' q=>hn1 i _ hx s1 st.1 A' Q' E' q) λh' sb g=>?_;exact hQ _ h' s1.toks hx ⟨(sb.2 a (An iR)).trans st.1,g⟩ λb ob hb e=>(sb.2 b (by simpa using hb)).trans e
  .have aQ:s1.heap.get? a=some o/\s1.heap.get? s.heap.objs.size=some (xY (rawInt (slot es.size)) es.size a es.size ep):=by rw[<-hl];rw[<-hl]at st;exact st
   refine Yu (A:=A.in1) hh aQ.2 aQ.1 hd hf rfl (λA' Q' E' q=>iH s1 aQ.1 A' Q' E' q) λh' sb=>?_;exact hQ h' s1.toks λb ob hb e=>sb b ob (by simpa using hb) e
  .exact Yj ⟨_,st.2,rfl⟩ q
 cases jA:oF w with
 |true=>
  refine x6 ?_;show Ah _ _ (if false=true then _ else _) _ _ s;rw[y8 Ay];refine A0 (x6 ?_);have pp:=YD (w.params.setOrder a ep) es
  have hl:((Nc (w.params.setOrder a ep) es).toList.map (·.2)).length=es.size:=by rw[A3,pp.length_eq,Ar]
  refine num (λ_=>0) _ rfl hl (pp.map (·.2)) (λi x hx s1 g A' Q' E' q=>?_) (λs1 g A' Q' E' q=>?_)
  .refine PB jA g hd hf ?_;rw[Ao,C0]at hx
   cases he:(Nc (w.params.setOrder a ep) es)[i]? with
   |none=>rw[he]at hx;cases hx
   |some e=>rw[he]at hx;cases hx;exact q
  .refine PB jA g hd hf ?_
   have hz:(Nc (w.params.setOrder a ep) es).size=es.size:=by rw[<-Ar,pp.length_eq,Ar]
   rw[Jm ⋯];exact q
 |false=>
  have hL:t.led=true:=by rw[hL0,jA];rfl
  refine x6 ?_;show Ah _ _ (if (!t.plain&&decide (es.size>1))=true then _ else _) _ _ s;rw[y8 (by rw[au];exact Ay)]
  refine A0 (x6 ?_)
  have slotAt:∀i,i<=es.size->Be t.place (if i=0 then 0 else t.place.getD (i-1) 0+1)=i:=λi bA=>by
   by_cases hz:i=0
   .subst hz;rw[y6 rfl];exact Zv ix
   .rw[y8 hz,ϋ ix ⋯];omega
  refine num (λi=>if i=0 then 0 else t.place.getD (i-1) 0+1) (es.toList.map (·.2)) rfl (by simp) (F2 _) (λi x hx s1 g A' Q' E' q=>?_) (λs1 g A' Q' E' q=>?_)
  .refine Qn jA g hd hf (.inl au) hL ?_;rw[Ao,C0]at hx
   cases he:es[i]? with
   |none=>rw[he]at hx;cases hx
   |some e=>
    rw[he]at hx;cases hx;have bA:i<es.size:=(Fm.mp he).1;rw[slotAt i (Dc bA),he]
    have hpi:t.place[i]?=some (t.place.getD i 0):=by
     have:i<t.place.size:=by omega
     rw[D0 this];simp[Em,this]
    rw[hpi]
    have e2:(if i+1=0 then 0 else t.place.getD (i+1-1) 0+1)=t.place.getD i 0+1:=by rw[y8 ⋯];rfl
    rw[e2]at q;exact q
  .refine Qn jA g hd hf (.inl au) hL ?_;rw[slotAt es.size (Ad _),Jm (Ad _)];exact q
def ώ{Q:List A9->Ae->Prop}(hh:A.handled=none)(hG:vU w s.heap a vs)(hQ:∀s' cf,(∃hp tk d,s'={ s with heap:=hp,toks:=tk,drawn:=d })->(∀b o,s.heap.get? b=some o->s'.heap.get? b=some o)->s.heap.objs.size<=s'.heap.objs.size->cf.Perm vs->Q cf s'):Ah (Aw prog w) A (Jz (.ref a)) Q E s:=by
 have lms:vs.length<scanBound:=by obtain⟨o,es,ep,t,ho,bJ,hd,rfl,hb,_⟩:=hG;rw[A3,Ar];exact hb
 have iR:a<s.heap.objs.size:=by obtain⟨o,es,ep,t,ho,_⟩:=hG;exact Aj ho
 unfold Jz;refine A0 (Jb (codeAny_builtin F.entry_proto_collect ?_));rw[Br F.plain_proto_collect _];show Ah _ A.in1 (N7 [] >>= λl=>Mx (.builtin "list.__iadd__" ⟨[l,.ref a],[]⟩)) _ _ s;refine A0 (Bc ?_);refine x6 ⟨plainId_quiet F.plain_list_iadd _,codeAny_builtin F.entry_list_iadd ?_⟩;rw[Br F.plain_list_iadd _]
 generalize fg:s.heap.push { cls:=.type "list",data:=.seq ([]:List A9).toArray }=h1
 have g1:h1.get? s.heap.objs.size=some { cls:=.type "list",data:=.seq ([]:List A9).toArray }:=by rw[<-fg];exact Ak _ rfl
 have k1:∀b o,s.heap.get? b=some o->h1.get? b=some o:=λb o e=>by rw[<-fg];exact A8 _ e
 have G1:vU w h1 a vs:=by obtain⟨o,es,ep,t,ho,z⟩:=hG;exact⟨o,es,ep,t,k1 _ _ ho,z⟩
 have eB:M6 { s with heap:=h1 } (.ref a) "set":=by obtain⟨o,es,ep,t,ho,bJ,_⟩:=G1;exact⟨o,ho,bJ.1⟩
 show Ah _ A.in1 (Dw (.ref s.heap.objs.size) (.ref a) (.ref s.heap.objs.size)) _ _ { s with heap:=h1 };unfold Dw;refine A0 (F9 eB ?_)
 have e1:Ga (.ref s.heap.objs.size) (.ref a)=false:=by simp[Ga,Cw iR]
 have e2:(C4 "set"==C4 "list")=false:=by decide
 have e3:(C4 "set"==C4 "tuple")=false:=by decide
 simp only[e1,e2,e3,Jx,B4,if_false];refine A0 (v20 (prog:=prog) (A:=A.in1) hh G1 λit s2 cf St fp bE k2 hp dR aG hfa gP st W=>?_);obtain⟨h2,d2,rfl⟩:=bE
 have eR:M6 { s with heap:=h2,drawn:=d2 } (.ref a) "set":=by obtain⟨o,es,ep,t,ho,bJ,_⟩:=G1;exact⟨o,k2 _ _ ho,bJ.1⟩
 refine A0 (Ca ?_);unfold C1.List.listLengthHint;refine A0 (F5 eR WH ?_)
 have du:splitId "set.__len__" = some ("set","__len__"):=by decide +kernel
 right;rw[du];right;refine A0 (Hx eR sub_set_self ?_);rw[y8 (show ¬((!true)=true) by decide)];refine UT ?_ ?_
 .rfl
 refine A0 (F9 eR ?_);refine x6 (UT ?_ ?_)
 .rfl
 refine A0 (Fl ?_);have gS:h2.get? s.heap.objs.size=some { cls:=.type "list",data:=.seq ([]:List A9).toArray }:=k2 _ _ g1;refine A0 ?_;show Ah _ A.in1 (Gh s.heap.objs.size (·.push .none) >>= λ_=>Gh s.heap.objs.size (·.pop)) _ _ { s with heap:=h2,drawn:=d2 };refine A0 (Ee gS rfl ?_);have dJ:=C9 (Cg (·.push Bx)) gS rfl
 refine Ee dJ rfl ?_;have gS3:=C9 (Cg (·.pop)) dJ rfl
 have z1:s.heap.objs.size<h1.objs.size:=by rw[<-fg,Dx];exact E4 _
 have fT:s.heap.objs.size∉fp:=λz=>by
  rcases hfa _ z with y|y
  .exact Cw iR y
  .exact Di _ (B3 z1 y)
 have hV:∀b o,b≠s.heap.objs.size->h2.get? b=some o->((h2.update s.heap.objs.size (Cg (·.push Bx))).update s.heap.objs.size (Cg (·.pop))).get? b=some o:=λb o hb e=>(Bd _ _ (Cz hb)).trans ((Bd _ _ (Cz hb)).trans e)
 have olen:cf.length=vs.length:=hp.length_eq;refine x6 ⟨plainId_quiet F.plain_extend_loop _,codeAny_extend_loopS (Nf.of_in1 W).toS (by rw[olen,Bk];unfold scanBound at lms;omega) _ fT _ cf.length 0 _ _ _ rfl (Bh _) (W.frame 0 _ _ st λb hb o e=>hV b o (λz=>fT (z▸hb)) e) gS3 (ItemsOf.nil _) λs' af c hm hS aC=>?_⟩
 show Ah _ A (load s.heap.objs.size >>= _) _ _ s';refine A0 (Mm hS ?_)
 have eacc:af.toList=cf:=by
  apply Jl;intro j;rw[C0]
  cases hj:af[j]? with
  |some v=>exact(aC.2 j v hj).symm
  |none=>
   have:af.size<=j:=by
    rcases Nat.lt_or_ge j af.size with z|z
    .rw[D0 z]at hj;cases hj
    .exact z
   rw[aC.1]at this;exact(Fq this).symm
 show Ah _ A (Ci af.toList) Q E s';rw[eacc]
 have itn:∀b o,s.heap.get? b=some o->b≠it:=λb o e z=>by
  rcases hfa it aG with y|y
  .obtain⟨o1,q1,c1⟩:=gP;obtain⟨o2,q2,c2⟩:=eR;rw[y]at q1;have q3:some o1=some o2:=q1.symm.trans q2;cases q3;rw[c1]at c2;exact u3 (C4.inj c2) ∅
  .exact Di _ (B3 (Dv (z▸Aj e) z1) y)
 refine x6 (hQ s' cf ⟨s'.heap,s'.toks,d2,?_⟩ (λb o e=>?_) (Dc (Aj hS)) hp)
 .have e1:=hm.gens;have e2:=hm.drawn;have e3:=hm.os;cases s';simp only at e1 e2 e3;subst e1;subst e2;subst e3;rfl
 .have hb:=Aj e
  exact hm.heap b o (by
   simp only[Ac,Dg,or_false,not_or]
   exact⟨An hb,itn b o e⟩) (hV b o (An hb) (k2 _ _ (k1 _ _ e)))
end
end L3
namespace L3
open PySem PySem.Spec PyProof.Rows L2 PySem.SeqAt
def pD(p:Int×Int):D:=.tup [.int p.1,.int p.2]
def Xp{xs ys:List (List Int)}(h:xs.Perm ys):sO xs=sO ys:=zK (le:=λa b=>HT.lexLt b a=false) (λa b h1 h2=>BZ a b h2 h1) ((zJ xs).trans (h.trans (zJ ys).symm)) (CL xs) (CL ys) KA
theorem IV:∀ps:List (Int×Int),mP (ps.map pD)=some (ps.map λp=>[p.1,p.2])
 | []=>rfl
 |p::ps=>by rw[Ai,Ai];show (mP (ps.map pD)).map _=_;rw[IV ps];rfl
theorem Qw{xs ys:List (Int×Int)}(h:xs.Perm ys):lO (xs.map pD)=lO (ys.map pD):=by
 unfold lO;rw[A3,A3,h.length_eq,IV,IV];right;rw[Xp (h.map λp=>[p.1,p.2])]
 cases xs with
 |nil=>
  have:=h.symm.eq_nil
  subst this;rfl
 |cons x xs=>
  cases ys with
  |nil=>exact u3 h.eq_nil (by simp)
  |cons y ys=>rfl
theorem VY{α β:Type}{f:α->β}{ys:List β}{zs:List β}(h:ys.Perm zs):∀{xs:List α},zs=xs.map f->∃gJ:List α,gJ.Perm xs/\ys=gJ.map f:=by
 induction h with
 |nil=>exact λ{xs} e=>⟨xs,F2 _,e⟩
 |cons y _ ih=>
  intro xs e
  cases xs with
  |nil=>cases e
  |cons x xs=>cases e;obtain⟨gJ,p,e'⟩:=ih rfl;exact⟨x::gJ,p.cons x,by rw[e'];rfl⟩
 |swap y z l=>
  intro xs e
  match xs,e with
  |a::b::xs,e=>cases e;exact⟨b::a::xs,Jj _ _ _,rfl⟩
 |trans _ _ ih1 ih2=>intro xs e;obtain⟨x2,p2,e2⟩:=ih2 e;obtain⟨x1,p1,e1⟩:=ih1 e2;exact⟨x1,p1.trans p2,e1⟩
section
variable{X:Cx}
abbrev FV(X:Cx)(a:As)(ps:List ((Int×Int)×As)):HO:=.ext λh=>vU X.w h a (ps.map λp=>Co p.2)
def ê{ps:List ((Int×Int)×As)}(G:vU X.w h a (ps.map λp=>Co p.2)):kX X.prog X.w H h a (FV X a ps):=by obtain⟨o,es,ep,t,ho,z⟩:=G;refine⟨⟨o,es,ep,t,ho,z⟩,⟨o,ho⟩,λh1 h2 hz k=>?_⟩;obtain⟨o',cD,dF,t',br,z'⟩:=hz;exact⟨o',cD,dF,t',k _ br,z'⟩
def rL.toV(G:rL X.prog X.w h S ps)(hl:ps.length<=18):vU X.w h S (ps.map λp=>Co p.2):=by
 obtain⟨o,es,ep,t,ho,h1,h2,h3,T,h5,h6,_⟩:=G
 have hz:es.size=ps.length:=by rw[<-Ar,h3,A3]
 exact⟨o,es,ep,t,ho,h1,h2,by rw[h3,B2];rfl,by rw[hz];unfold scanBound;omega,T.fits (by rw[hz,A3]),T.ris,h6,T.plain⟩
def v0J{h:Ch}{a:As}(ho:h.get? a=some (o4 X.w)):rL X.prog X.w h a []:=
 ⟨_,#[],0,_,ho,⟨rfl,rfl,rfl⟩,rfl,rfl,⟨rfl,El,λj hj=>(Dg hj).elim,rfl,.inl rfl,Bh _,λk hk=>(Dg hk).elim,Ep,(λi j k h1=>by simp[D4.fresh]at h1),rfl⟩,rfl,rfl,λp hp=>(Dg hp).elim⟩
def v1I(X:Cx):List V->Hp->VK->Prop:=λxs H Q=>∃(p:As) (us:List V) (ns:List (Int×Int)) (Hh:Hp),xs=[.ref p]/\J4 Hh H/\(i7 X.K H p us\/i8 X.K H p us)/\J3 X.K Hh (ns.map pD) us/\(∀n∈ns,n∈l8)/\ns.length<=17 /\
 ∀(a:As) (ps:List ((Int×Int)×As)),H a=none->(ps.map (·.1)).Nodup->(∀x,x∈ps.map (·.1)↔x∈ns)->J3 X.K Hh (ps.map λp=>pD p.1) (ps.map λp=>V.ref p.2)->Q (.ref a) (upd H a (FV X a ps))
theorem IP{K:A5}{H:Hp}{α:Type}{f:α->D}{g:α->V}:∀{ps:List α},(∀p∈ps,e9 K H (f p) (g p))->J3 K H (ps.map f) (ps.map g)
 | [],_=>J9.mpr rfl
 |p::ps,h=>j7.mpr ⟨_,_,rfl,h p A6,IP λq hq=>h q (A7 _ hq)⟩
def X2(hc:X.calm=true)(hu:X.A.units+64<D8):lC X (.type "set") (v1I X):=by
 intro aa s U H xs vs Q I r h;obtain⟨p,us,ns,Hh,rfl,sH,hq,fz,hsm,h17,q⟩:=h;have hr:=fz.mono sH;obtain⟨u,rfl,rx⟩:=l7 r;cases rx;have hh:X.A.handled=none:=I.ok.hd hc
 have ab:ns.length=us.length:=by have:=hr.length;rwa [A3]at this
 have itm:∀{its:List A9},Y4 us its->∀(j:Nat) (v:A9),its[j]?=some v->∃(k:Int×Int) (b:As),ns[j]?=some k/\v = .ref b/\e9 X.K Hh (pD k) (.ref b)/\b<s.heap.objs.size/\pM X.prog X.w s.heap k b:=λ{its} rv j v hv=>by
  have hj:j<ns.length:=by
   have:=(B0.mp hv).1
   rw[<-rv.length,<-ab]at this;exact this
  obtain⟨x,e1,r1⟩:=fz.get (i:=j) (d:=pD ns[j]) (by rw[Ao,A4 hj];rfl)
  obtain⟨v',e2,r2⟩:=rv.get e1;rw[hv]at e2;cases e2;obtain⟨b,o,it,n,rfl,ho,ar,hd,hi⟩:=tM (ns:=[ns[j].1,ns[j].2]) I (r1.mono sH) r2;obtain⟨b',_,e3,_⟩:=j5.mp r1;subst e3;cases r2;refine⟨ns[j],b,A4 hj,rfl,r1,Aj ho,o,it,n,ho,ar,hd,?_⟩;revert hi;generalize it.toList=L;intro hi
  cases hi with
  |cons m t h'=>
   cases h' with
   |cons m' t' h''=>cases h'';exact .cons (intKind_is _ _ _ _) (.cons (intKind_is _ _ _ _) .nil)
 let G:List A9->Ch->List (Int×Int)->Prop:=λits h ms=>∃ps,ps.map (·.1)=ms/\rL X.prog X.w h s.heap.objs.size ps/\(∀p∈ps,∃j:Nat,its[j]?=some (.ref p.2)/\ns[j]?=some p.1)/\∀b o,b<s.heap.objs.size->s.heap.get? b=some o->h.get? b=some o
 have fr:∀its h h' ms,G its h ms->(∀b o,b≠s.heap.objs.size+1->h.get? b=some o->h'.get? b=some o)->G its h' ms:=λits h h' ms ⟨ps,e,g1,g2,g3⟩ k=>
  ⟨ps,e,g1.frame λb o hb e=>k b o (An (Nat.lt_succ_of_le hb)) e,g2,λb o hb e=>k b o (An (C5 hb)) (g3 b o hb e)⟩
 have add:∀{its:List A9},Y4 us its->∀(i:Nat) (v:A9) (s':Ae) (ms:List (Int×Int)) (Q:Bool->Ae->Prop) (E:VP),i<ns.length->its[i]?=some v->G its s'.heap ms->ms.length<=i->(∀b h' tk aP,Dd s.heap.objs.size s'.heap h'->G its h' aP->(∀x,x∈aP↔x∈ms\/x=ns.getD i (0,0))->aP.length<=ms.length+1->Q b { s' with heap:=h',toks:=tk })->Ah (Aw X.prog X.w) X.A.in1.in1.in1 (Nu s.heap.objs.size v) Q E s':=λ{its} rv i v s' ms Q E hi hv ⟨ps,e,g1,g2,g3⟩ hl hQ=>by
  subst e;obtain⟨k,b,hk,rfl,_,eP,fE⟩:=itm rv i v hv;rw[A3]at hl;refine v2H (k:=k) (by show X.A.units+3<D8;omega) g1 (hsm k (C6 hk)) (CU fE λo e=>g3 b o eP e) eP ⋯ λbb h' tk ci sb G' m1 m2 m3=>hQ bb h' tk _ sb ⟨ci,rfl,G',λp hp=>?_,λb o hb e=>(sb.2 b (An hb)).trans (g3 b o hb e)⟩ (λx=>?_) (by simpa using m2)
  .rcases m3 p hp with z|z
   .exact g2 p z
   .rw[z];exact⟨i,hv,hk⟩
  .rw[m1,K5 hk]
 have fin:∀{its:List A9},Y4 us its->∀(h':Ch) (tk:Nat) (ms:List (Int×Int)),G its h' ms->(∀x,x∈ms↔∃j,j<ns.length/\x=ns.getD j (0,0))->(∀b o,s.heap.get? b=some o->h'.get? b=some o)->EP X aa U Q (.ref s.heap.objs.size) { s with heap:=h',toks:=tk }:=λ{its} rv h' tk ms ⟨ps,e,g1,g2,g3⟩ hm hk=>by
  subst e
  have aB:(ps.map (·.1)).Nodup:=by obtain⟨o,es,ep,t,_,_,_,_,T,_⟩:=g1;exact T.nd
  have aJ:∀x,x∈ps.map (·.1)↔x∈ns:=λx=>by
   rw[hm];constructor
   .rintro ⟨j,hj,rfl⟩;rw[K5 (A4 hj)];exact Bv hj
   .intro hx;obtain⟨j,hj,e⟩:=E8 hx;exact⟨j,hj,by rw[K5 (A4 hj),e]⟩
  have hl:ps.length<=18:=by
   have:=IS aB (λx hx=>(aJ x).mp hx)
   rw[A3]at this;omega
  refine⟨.ref s.heap.objs.size,_,I.laid (t':=tk) hk (Ad _) (ê (g1.toV hl)),rfl,q _ ps (I.hok.fresh (Ad _)) aB aJ (IP λp hp=>?_)⟩;obtain⟨j,e1,e2⟩:=g2 p hp;obtain⟨k,b,f1,f2,f3,_⟩:=itm rv j _ e1;cases f2;rw[e2]at f1;cases f1;exact f3
 have g0:∀its h,(∀b o,s.heap.get? b=some o->h.get? b=some o)->h.get? s.heap.objs.size=some (o4 X.w)->G its h []:=λits h k g=>⟨[],rfl,v0J g,λp hp=>(Dg hp).elim,λb o _ e=>k b o e⟩;rcases hq with hq|hq
 .obtain⟨its,rv,pl,hz⟩:=I.list hq
  have cA:its.toArray.size=ns.length:=by rw[Af,<-rv.length,ab]
  obtain⟨ol,cR,ar,nl,dy⟩:=pl.isList;have au:p<s.heap.objs.size:=Aj cR;have W0:=Ov (prog:=X.prog) (w:=X.w) (A:=X.A.in1.in1.in1) hh (s.heap.objs.size+1) p (An (C5 au)) its.toArray;rw[cA]at W0
  exact BV (T:="list") (oI:={ cls:=.type "list_iterator",data:=.fields #[.ref p,.int 0 0] }) cR ar F.sub_list_set F.sub_list_frozenset ∅ rfl
   (λA' E' s' Q' g q'=>Hd ⟨ol,g,ar,nl,dy⟩ q') W0 (λh' g1 g2=>⟨⟨_,g2,rfl,rfl⟩,⟨ol,g1,ar,nl,dy⟩⟩) (g0 its) (fr its) (λi v s' ms Q' E' hi hv=>add rv i v s' ms Q' E' hi (by simpa using hv)) (fin rv)
 .obtain⟨its,rv,pl,hz⟩:=I.tuple hq
  have cA:its.toArray.size=ns.length:=by rw[Af,<-rv.length,ab]
  obtain⟨ol,cR,ar,nl,dy⟩:=pl;have au:p<s.heap.objs.size:=Aj cR;have W0:=Nf.tuple (prog:=X.prog) (w:=X.w) (A:=X.A.in1.in1.in1) hh (s.heap.objs.size+1) p (An (C5 au)) its.toArray;rw[cA]at W0
  exact BV (T:="tuple") (oI:={ cls:=.type "tuple_iterator",data:=.fields #[.ref p,.int 0 0] }) cR ar QX Qy ∅ rfl
   (λA' E' s' Q' g q'=>Ev ⟨ol,g,ar,nl,dy⟩ q') W0 (λh' g1 g2=>⟨⟨_,g2,rfl,rfl⟩,⟨ol,g1,ar,nl,dy⟩⟩) (g0 its) (fr its) (λi v s' ms Q' E' hi hv=>add rv i v s' ms Q' E' hi (by simpa using hv)) (fin rv)
def Ř(X:Cx):List V->Hp->VK->Prop:=λxs H Q=>∃(a:As) (ps:List ((Int×Int)×As)) (es:List D) (Hh:Hp),xs=[.ref a]/\H a=some (FV X a ps)/\J4 Hh H/\J3 X.K Hh (ps.map λp=>pD p.1) (ps.map λp=>V.ref p.2)/\lO ((ps.map (·.1)).map pD)=some es/\∀l ys,H l=none->J3 X.K Hh es ys->Q (.ref l) (upd H l (.lst ys))
def ZK(hc:X.calm=true):lC X (.builtin "sorted") (Ř X):=by
 intro aa s U H xs us Q I r h;obtain⟨a,ps,es,Hh,rfl,hH,sH,hr,hs,q⟩:=h;obtain⟨u,rfl,rx⟩:=l7 r;cases rx;have hh:X.A.handled=none:=I.ok.hd hc;have G:vU X.w s.heap a (ps.map λp=>Co p.2):=(I.hok a _ hH).1;refine QV (ώ (prog:=X.prog) (A:=X.A.in1) hh G λs1 cf fC k1 hsz pm=>?_);obtain⟨h1,tk1,d1,rfl⟩:=fC;obtain⟨ci,pp,rfl⟩:=VY pm rfl
 have mem:∀p∈ps,e9 X.K Hh (pD p.1) (V.ref p.2):=λp hp=>by
  obtain⟨i,hi⟩:=Ke hp;obtain⟨v,e1,e2⟩:=hr.get (i:=i) (d:=pD p.1) (by rw[Ao,hi];rfl)
  rw[Ao,hi]at e1;cases e1;exact e2
 have rv:∀qs:List ((Int×Int)×As),Y4 (qs.map λp=>V.ref p.2) (qs.map λp=>Co p.2):=λqs=>by
  induction qs with
  |nil=>exact .nil
  |cons x xs ih=>exact .cons rfl ih
 refine Qx (ds:=ci.map λp=>pD p.1) I sH (IP λp hp=>mem p (pp.mem_iff.mp hp)) (rv ci) ?_ k1 hsz q;rw[<-hs,B2]
 have e:(ci.map λp=>pD p.1)=(ci.map (·.1)).map pD:=by rw[B2];rfl
 rw[e,Qw (pp.map (·.1)),B2]
end
def wI:List D->Option (List (Int×Int))
 | []=>some []
 | .tup [.int a,.int b]::r=>(wI r).map ((a,b)::·)
 |_::_=>none
theorem Wz:∀{ds:List D} {ns:List (Int×Int)},wI ds=some ns->ds=ns.map pD:=by
 intro ds
 fun_induction wI ds with
 |case1=>intro ns h;cases h;rfl
 |case2 a b r ih=>intro ns h;obtain⟨ms,e,rfl⟩:=B5.mp h;rw[ih e];rfl
 |case3=>intro ns h;cases h
def vE(fa:EL):EL:=λY=>match fa Y with
 |some ds=>(match wI ds with|some ns=>if (∀n∈ns,n∈l8)/\ns.length<=17 then lO ((l4 ns).map pD) else none|none=>none)
 |none=>none
section
variable{X:Cx}{e:Expr}{fa:EL}{p p2 pos aU:Hi}
def OE(hc:X.calm=true)(hu:X.A.units+64<D8)(hm:X.mg "sorted" = none)(hms:X.mg "set" = none)(ha:ZQ X e fa)(hg:Gl X "sorted":=by rfl)(hgs:Gl X "set":=by rfl)(he:J0 e=true:=by rfl): ZF X (.Call (.Name "sorted" p) [.Call (.Name "set" p2) [e] [] aU] [] pos) (vE fa):=
 ⟨have ha:=ha.h;
 j6 (tW (ZK hc) hg hm ‹_› (J7 (oN (X2 hc hu) hgs hms ‹_› (J7 ha Y5 (w9 he)) ∅ ∅ (w9 he) (K7 rfl)) Y5 (w9 rfl)) ∅ ∅ (w9 rfl) (K7 rfl)) λU H Q h_=>by
  refine f7 h_ λY es B H0 V0 Z e1 r q=>?_;unfold vE at e1;split at e1
  .rename_i ds aF;split at e1
   .rename_i ns hn;split at e1
    .rename_i hs;have cS:=Wz hn;subst cS;refine⟨Y,_,B,H0,V0,Z,aF,r,λa xs H1 s1 hq rr=>⟨a,xs,ns,K0 Z H1,rfl,v4,hq.imp id (j9 v4),rr,hs.1,hs.2,λb ps hb aB aJ hr=>?_⟩⟩
     have pm:(ps.map (·.1)).Perm (l4 ns):=CD aB (wX ns) λx=>by rw[aJ,t8]
     refine⟨b,ps,es,K0 Z H1,rfl,w6,v4.trans (u9 hb),hr,by rw[Qw pm];exact e1,λl ys hl hy=>?_⟩
     have hlb:l≠b:=λz=>by rw[z,w6]at hl;cases hl
     have sm:J4 H1 (upd (upd H1 b (FV X b ps)) l (.lst ys)):=(u9 hb).trans (u9 hl);rw[j3 hlb]at hl;exact q l _ _ (s1.trans sm) (s1.free hl) w6 (hy.mono (rC hl sm))
    .cases e1
   .cases e1
  .cases e1⟩
end
end L3
namespace L3
open PySem PySem.Spec PyProof.Rows L2
structure kU(K:A5)(mg:Ba->Option A9)(x:Ba)(st:Dl):Prop where
 ex:∃f fd,rW K x x st f fd/\mg x=some (.ref f)/\qI K fd.code x=true
def ů{P:Bs}{w:Ce}{K:A5}{mg:Ba->Option A9}{base:Ch}{x:Ba}{st:Dl}{N ps:List Ba}{k n:Nat}{g:EO}(G:kU K mg x st)(S:jD N ps (u5 st))(hb:∀(kV az pm:A9) (an:Option As) (ah ct:A9) (us:List A9),us.length=ps.length->Gu (E3 x x (pQ st) (l9 st) (u5 st) .none kV az pm an ah ct) ⟨us,[]⟩=Ci (ps.zip us))(hn:ps.length=n) (ap:∀(f:As) (ah:A9) (A:Bz) (outer:List O7) (s:Ae) (H:Hp) (E:XK),qI K ah x=true->d8 k (A.deeper (Jr x (u5 st) s.heap.objs.size f ah)) ->
   ZB (oQ mG P w K mg base N x (u5 st) f ah A outer s H E).nox (l9 st) g):jO P w K mg base (k+1) x ps (jJ n N g):=by
 have ap:=λf ah A outer s H E hl hr=>(ap f ah A outer s H E hl hr).h;obtain⟨f,fd,G1,G2,G3⟩:=G.ex;refine⟨f,fd,?_,G2,G1.kp,G1.binds hb⟩;obtain⟨oc,od,kV,az,pm,an,ah,ct,dB,rfl,lk,aO⟩:=G1.ex;refine Vl lk aO S (λvs H Q E h=>?_) λA outer s H vs Q E hr h=>?_
 .obtain⟨Z,ds,d,zs,rr,e,q⟩:=h;rw[<-rr.length];unfold jJ at e;split at e
  .rename_i hl;rw[hl,hn]
  .cases e
 .obtain⟨Z,ds,d,zs,rr,e,q⟩:=h
  have e2:lM (g (oJ N ds))=some d:=by
   unfold jJ at e;split at e
   .exact e
   .cases e
  refine⟨_,(ap f ah A outer s H E G3 hr).nox,?_⟩
  cases ho:g (oJ N ds) with
  |none=>rw[ho]at e2;cases e2
  |some o=>
   refine⟨oJ N ds,o,Z,H,K0 Z H,Z,ho,JN zs rr,?_⟩;rw[ho]at e2
   cases o with
   |rt d'=>cases e2;exact λv H' s' rv=>q v H' s' rv
   |nx Y=>cases e2;exact λU H' Z' r'=>q .non H' r'.same (mJ.mpr rfl)
   |bk _=>cases e2
   |ct _=>cases e2
def Sa:ZB X sts (λ_=>none):=
 ⟨λaa s U H E I h=>by
 obtain⟨Y,o,B,H0,V0,Z,e,_⟩:=h
 cases e⟩
theorem mem_look{α:Type}{b:α}:∀{l:List (As×α)},l.lookup a=some b->(a,b)∈l
 | [],h=>by cases h
 | (k,v)::l,h=>by
  rw[Bq]at h
  cases hk:a==k with
  |true=>
   rw[hk]at h
   have e:a=k:=by simpa using hk
   cases h;rw[e];exact A6
  |false=>rw[hk]at h;exact A7 _ (mem_look h)
def uO(K:A5)(ts:List (As×Ba)):Bool:=
 (K.all λco=>match co.2 with
  |⟨.type "code",_,.fields vs,_⟩=>(match (vs[11]?:Option A9) with
   |some (.ref P)=>(K.lookup P).isSome||!AI vs||(match (vs[1]?:Option A9) with|some (.str q _)=>(match ts.lookup P with|some q'=>q==q'|none=>false)|_=>false)
   |_=>true)
  |_=>true)&&(ts.all λpq=>(K.lookup pq.1).isNone&&K.any λco=>Jv K co.1 pq.1)
def YU{K:A5}{ts:List (As×Ba)}(h:uO K ts=true){H:Hp}(hH:∀P q,ts.lookup P=some q->H P=some (.tbl #[.str q 0])):TB K H:=λc o vs P h1 h2 h3 h4 h5 h5'=>by
 unfold uO at h;rw[B8]at h;have h6:=Fg.mp h.1 (c,o) (mem_look h1);obtain⟨cls,dict,data,sl⟩:=o;simp only at h2 h3;subst h2;subst h3
 have h6:(match (vs[11]?:Option A9) with
   |some (.ref P)=>(K.lookup P).isSome||!AI vs||(match (vs[1]?:Option A9) with|some (.str q _)=>(match ts.lookup P with|some q'=>q==q'|none=>false)|_=>false)
   |_=>true)=true:=h6
 rw[h4]at h6;dsimp only at h6;rw[h5,h5']at h6;simp only[Option.isSome_none,M0,Fe]at h6;split at h6
 .rename_i q t hq;split at h6
  .rename_i q' ik
   have e:q=q':=by simpa using h6
   subst e;exact⟨q,t,hq,hH P q ik⟩
  .cases h6
 .cases h6
def PR{K:A5}{ts:List (As×Ba)}(h:uO K ts=true){P:As}{q:Ba}(e:ts.lookup P=some q):K.lookup P=none/\∃c,Jv K c P=true:=by unfold uO at h;rw[B8]at h;have h6:=Fg.mp h.2 (P,q) (mem_look e);rw[B8]at h6;obtain⟨co,_,hc⟩:=Mc.mp h6.2;exact⟨by simpa using h6.1,co.1,hc⟩
theorem Ym{P:Bs}{K:A5}{fa a:As}{x:Ba}{s₁:Ae}{vs:List A9}(KX:K.In s₁.heap)(bP:s₁.heap.Ns D9 mg)(hb:s₁.heap.Ns Il mb)(hbb:∀x:Ba,x≠"__name__"->mb x=Db x)(hlim:s₁.heap.NoLimit)(hbm:∃bm ob,mg "__builtins__" = some (.ref bm)/\bm≠Il/\s₁.heap.get? bm=some ob/\ob.cls = .type "module"/\ob.dict=some Il/\ob.data = .plain)(hg:s₁.gens = #[])(ha:s₁.heap.get? a=some { cls:=.type "list",data:=.seq vs.toArray })(hi:Cj vs ns)(hl:ns.length<=sizeLine)(hr:d8 k N5)(gZ:uO K ts=true)(iZ:∀P q,ts.lookup P=some q->s₁.heap.get? P=some { cls:=.none,data:=.fields #[] })(F:∀base:Ch,K.In base->base.Ns D9 mg->kD P w K mg base mG k fa fd [x] sp)(jd:∀(s:Ae) (u:A9),Nx s fd ⟨[u],[]⟩ [(x,u)])(du:∀H:Hp,TB K H->i7 K H a (ns.map V.int)->sp [.ref a] H (λv _=>v = .bl true) λ_ _ _=>False):
  Eu (Aw P w) N5 (.call (.ref fa) ⟨[.ref a],[]⟩) (λr s'=>r = .ok (.ret (.bool true))/\OldK s₁.heap s'.heap/\s'.os=s₁.os/\Ks s'.gens) s₁:=by
 have rv:=PX hi;have lenV:=hi.length
 have nota:∀q,ts.lookup a≠some q:=λq z=>by
  have:=iZ a q z
  rw[ha]at this;cases this
 have hZ:∀H:Hp,(∀b,(∃q,ts.lookup b=some q/\H b=some (.tbl #[.str q 0]))\/(ts.lookup b=none/\(H b=none\/(b=a/\K.lookup a=none/\H a=some (.frz { cls:=.type "list",data:=.seq vs.toArray } (.lst (ns.map V.int)))))))->i7 K H a (ns.map V.int) ->
   Eu (Aw P w) N5 (.call (.ref fa) ⟨[.ref a],[]⟩) (λr s'=>r = .ok (.ret (.bool true))/\OldK s₁.heap s'.heap/\s'.os=s₁.os/\Ks s'.gens) s₁:=λH hH hS=>by
  have hok:lF P w H s₁.heap:=λb u z=>by
   rcases hH b with⟨q,e1,e2⟩|⟨e1,e2|⟨rfl,_,e2⟩⟩
   .rw[e2]at z;cases z;exact⟨#[],iZ b q e1,trivial,λp v c=>by cases c⟩
   .rw[e2]at z;cases z
   .rw[e2]at z;cases z;exact⟨ha,by rw[A3];exact hl,vs,_,rv,ha⟩
  have bZ:∀{b:As} {o:Ka},s₁.heap.get? b=some o->H b=none->(sS s₁.heap H).get? b=some o:=λe n=>Ϙ e n
  have eW:∀{b:As} {o:Ka} {es:Array DictEntry} {ep:Nat},s₁.heap.get? b=some o->o.data = .dict es ep->H b=none:=λ{b o es ep} e d=>by
   rcases hH b with⟨q,e1,e2⟩|⟨e1,e2|⟨rfl,_,e2⟩⟩
   .have:=iZ b q e1
    rw[e]at this;cases this;cases d
   .exact e2
   .rw[ha]at e;cases e;cases d
  have noM:∀{b:As} {o:Ka},s₁.heap.get? b=some o->o.data = .plain->H b=none:=λ{b o} e d=>by
   rcases hH b with⟨q,e1,e2⟩|⟨e1,e2|⟨rfl,_,e2⟩⟩
   .have:=iZ b q e1
    rw[e]at this;cases this;cases d
   .exact e2
   .rw[ha]at e;cases e;cases d
  have nsK:∀{b:As} {m:Ba->Option A9},s₁.heap.Ns b m->(sS s₁.heap H).Ns b m:=λ{b m} ⟨o,es,ep,e,d,r⟩=>⟨o,es,ep,bZ e (eW e d),d,r⟩
  have hKb:K.In (sS s₁.heap H):=λb o e=>bZ (KX b o e) (by
   rcases hH b with⟨q,e1,e2⟩|⟨e1,e2|⟨rfl,e3,e2⟩⟩
   .rw[(PR gZ e1).1]at e;cases e
   .exact e2
   .rw[e3]at e;cases e)
  have hM:Mod K mg (sS s₁.heap H):=⟨hKb,nsK bP,⟨mb,nsK hb,hbb⟩,(let ⟨mc,h1,h2⟩:=hlim;⟨mc,nsK h1,h2⟩),let ⟨bm,ob,m1,m2,m3,m4,m5,m6⟩:=hbm;⟨bm,ob,m1,m2,bZ m3 (noM m3 m6),m4,m5,m6⟩⟩
  have e0:sY P w K mg (sS s₁.heap H) N5 [] s₁ H:=⟨rfl,hM,λb o e=>Ç e,Nat.le_of_eq (Yh _ _),trivial,λb hb=>u3 (show b∈([]:List As) from hb) (by simp),hok,.of_eq hg⟩
  have tb:TB K H:=YU gZ λQ q e=>by
   rcases hH Q with⟨q',e1,e2⟩|⟨e1,_⟩
   .rw[e]at e1;cases e1;exact e2
   .rw[e]at e1;cases e1
  refine codeAny_mono ((F _ hKb (nsK bP)).run N5 [] s₁ H ⟨[.ref a],[]⟩ [.ref a] [.ref a] _ _ hr e0 (jd s₁ (.ref a)) (.cons rfl .nil) (du H tb hS)) λr s' h=>?_
  cases r with
  |error e=>exact G7 h
  |ok fl=>
   cases fl with
   |next=>exact G7 h
   |brk=>exact G7 h
   |cont=>exact G7 h
   |ret u=>
    obtain⟨v,H',os,bare,un,ja,r',q⟩:=h;have q':v = .bl true:=q;subst q'
    obtain rfl:u=Np true:=r'
    refine⟨rfl,⟨λb o e=>?_,λb o e=>un.there b o e (by simp)⟩,os,bare⟩;rcases hH b with⟨q,e1,e2⟩|⟨e1,e2|⟨rfl,_,e2⟩⟩
    .obtain⟨more,z2⟩:=un.tbls b _ e2;obtain⟨qs,z3,_⟩:=ja b _ z2;have e3:=iZ b q e1;rw[e]at e3;cases e3;obtain⟨c,hc⟩:=(PR gZ e1).2;have ct:=(PySem.W.CodeHd.tab (PySem.W.codeHd_of_K KX hc) e).isCodeTable;exact .inr (.inl ⟨ct,rfl,#[],qs,rfl,by rw[z3];simp⟩)
    .exact .inl (un.keep b o e e2 (by intro z;exact u3 (show b∈([]:List As) from z) (by simp)) (by simp))
    .have z2:=un.frzs b _ _ e2;obtain⟨z3,_⟩:=ja b _ z2;rw[ha]at e;cases e;exact .inl z3
 cases hk:K.lookup a with
 |some o=>
  have e:=KX a o hk;rw[ha]at e;cases e;refine hZ (λb=>(ts.lookup b).map λq=>.tbl #[.str q 0]) (λb=>?_) (.inr ⟨_,vs.toArray,_,hk,rfl,rfl,rfl,by rw[Af,lenV];exact hl,by simpa using rv⟩)
  cases aW:ts.lookup b with
  |none=>exact .inr ⟨rfl,.inl rfl⟩
  |some q=>exact .inl ⟨q,rfl,rfl⟩
 |none=>
  refine hZ (λb=>if b=a then some (.frz { cls:=.type "list",data:=.seq vs.toArray } (.lst (ns.map V.int))) else (ts.lookup b).map λq=>.tbl #[.str q 0]) (λb=>?_) (.inl (.inr ⟨{ cls:=.type "list",data:=.seq vs.toArray },y6 rfl⟩));by_cases ia:b=a
  .subst ia;refine .inr ⟨?_,.inr ⟨rfl,hk,y6 rfl⟩⟩
   cases aW:ts.lookup b with
   |none=>rfl
   |some q=>exact u3 aW (nota q)
  .cases aW:ts.lookup b with
   |none=>exact .inr ⟨rfl,.inl (y8 ia)⟩
   |some q=>exact .inl ⟨q,rfl,y8 ia⟩
def Μ{l:Mu}{n k:Nat}{q:Bs}{YP:Ce->Ch->Prop}{d:DefRec}{K:Params->A5}{sp:Ce->Sp}{x:Ba}(ts:List (As×Ba))(hn:l.most=some n)(iH:n<=sizeLine)(jq:d.params.defaults=[])(hr:d8 k N5)(hY:∀(w:Ce) (h:Ch),YP w h->(K w.params).In h)(hT:∀(w:Ce) (h:Ch),YP w h->∀P q,ts.lookup P=some q->h.get? P=some { cls:=.none,data:=.fields #[] })(hK:∀w:Ce,uO (K w.params) ts=true)
  (F:∀(w:Ce) (mg:Ba->Option A9) (fa:As) (h:Ch),(K w.params).In h->h.Ns D9 mg->mg d.name=some (.ref fa) ->
   ∃fd:Gt,(∀(s:Ae) (u:A9),Nx s fd ⟨[u],[]⟩ [(x,u)]) /\
    ∀base:Ch,(K w.params).In base->base.Ns D9 mg->kD l.prog w (K w.params) mg base mG k fa fd [x] (sp w))
  (du:∀(w:Ce) (H:Hp) (a:As) (ns:List Int),ns.length<=n->TB (K w.params) H->i7 (K w.params) H a (ns.map V.int)->sp w [.ref a] H (λv _=>v = .bl true) λ_ _ _=>False):
  PySem.W.WalkO q loose XP YP l.row.toRowW d [] (λf vs=>Oq f vs):=by
 refine Att.attach_call hn jq λw s₀ s₁ mg mb fa o pm cd az a vs ns G ya ho hd aO ig fR dD ab hg=>?_;have KX:=hY w _ ya;obtain⟨fd,hb,hF⟩:=F w mg fa _ KX G.T.g ig;exact Ym KX G.T.g G.T.b G.T.builtins G.T.nolimit G.T.bmain hg fR dD (C7 ab iH) hr (hK w) (λP q e=>hT w _ ya P q e) hF hb (λH hO hS=>du w H a ns ab hO hS)
mutual
def tE:D->Bool
 | .tup ds=>tN ds
 | .lst ds=>tN ds
 | .dct _ _=>false
 | .non=>true
 | .bl _=>true
 | .int _=>true
 | .str _=>true
def tN:List D->Bool
 | []=>true
 |d::ds=>tE d&&tN ds
end
def sL(H H':Hp):Prop:=∀b u,H b=some u->H' b=some u\/∃kvs,u=HO.dK kvs
section
variable{K:A5}{H H':Hp}
def sL.lst(e:sL H H')(h:i7 K H a xs):i7 K H' a xs:=by
 rcases h with (h|⟨o,h⟩)|h
 .rcases e _ _ h with z|⟨kvs,z⟩
  .exact .inl (.inl z)
  .cases z
 .rcases e _ _ h with z|⟨kvs,z⟩
  .exact .inl (.inr ⟨o,z⟩)
  .cases z
 .exact .inr h
def sL.tup(e:sL H H')(h:i8 K H a xs):i8 K H' a xs:=by
 rcases h with (h|⟨o,h⟩)|h
 .rcases e _ _ h with z|⟨kvs,z⟩
  .exact .inl (.inl z)
  .cases z
 .rcases e _ _ h with z|⟨kvs,z⟩
  .exact .inl (.inr ⟨o,z⟩)
  .cases z
 .exact .inr h
mutual
theorem e9.less(e:sL H H'):∀{d:D} {v:V},tE d=true->e9 K H d v->e9 K H' d v
 | .non,_,_,h=>by rw[mJ]at h ⊢;exact h
 | .bl _,_,_,h=>by rw[Q3]at h ⊢;exact h
 | .int _,_,_,h=>by rw[v7]at h ⊢;exact h
 | .str _,_,_,h=>by rw[mB]at h ⊢;exact h
 | .tup ds,_,n,h=>by rw[j5]at h ⊢;obtain⟨a,xs,h1,h2,h3⟩:=h;rw[tE]at n;exact⟨a,xs,h1,e.tup h2,J3.less e n h3⟩
 | .lst ds,_,n,h=>by rw[K6]at h ⊢;obtain⟨a,xs,h1,h2,h3⟩:=h;rw[tE]at n;exact⟨a,xs,h1,e.lst h2,J3.less e n h3⟩
 | .dct ks ds,_,n,h=>by rw[tE]at n;cases n
theorem J3.less(e:sL H H'):∀{ds:List D} {vs:List V},tN ds=true->J3 K H ds vs->J3 K H' ds vs
 | [],_,_,h=>by rw[J9]at h ⊢;exact h
 |d::ds,_,n,h=>by rw[J3]at h ⊢;obtain⟨v,vs,h1,h2,h3⟩:=h;rw[tN,B8]at n;exact⟨v,vs,h1,e9.less e n.1 h2,J3.less e n.2 h3⟩
end
variable{B Z:List As}{H0 V0:Hp}{U:St}{Y:J5}
def SR.lend(r:SR K B H0 V0 H Z U Y){i:Nat}(h:Y[i]?=some (some (.od ks vs))):
  ∃a kvs,H a=some (.dK kvs)/\SR K B H0 V0 H (Z.filter λb=>decide (b≠a)) U (Y.set i (some (.sh (.dct ks vs)))):=by
 obtain⟨a,o,h1,h2,h3,h4,h5,h6⟩:=r.own i (.d ks vs) h;obtain⟨kvs,rfl,_,_⟩:=h6;have iJ:∀b∈Z.filter (λb=>decide (b≠a)),b∈Z:=λb hb=>(B7.mp hb).1;have iu:∀b,b∈Z->b≠a->b∈Z.filter (λb=>decide (b≠a)):=λb hb ne=>B7.mpr ⟨hb,Y1 ne⟩;have na:a∉Z.filter (λb=>decide (b≠a)):=λz=>(lZ (B7.mp z).2) rfl;have mono:J4 (K0 Z H) (K0 (Z.filter λb=>decide (b≠a)) H):=qD iJ
 have hi:i<Y.length:=(B0.mp h).1;obtain⟨a',o',q1,q2,q3,q4,q5,q6⟩:=r.own i (.d ks vs) h;rw[h1]at q1;cases q1;rw[h5]at q5;cases q5;refine⟨a,kvs,h5,r.same,r.tb,r.vis.trans mono,λb hb=>iu b (r.sub b hb) λz=>h3 (z▸hb),λz hz=>r.zs z (iJ z hz),λj d q=>?_,λj c q=>?_,λj k c e b e1 e2 s1 s2=>?_,by rw[D1];exact r.len⟩
 .rcases mK q with⟨rfl,z,_⟩|⟨hj,q⟩
  .cases z;exact⟨.ref a,h1,(pT.mono mono q6).rep (c:=.d ks vs) (by rw[K8 na];exact h5)⟩
  .obtain⟨v,e1,e2⟩:=r.sh j d q;exact⟨v,e1,e2.mono mono⟩
 .rcases mK q with⟨_,z,_⟩|⟨hj,q⟩
  .exact(oY z).elim
  .obtain⟨b,u,e1,e2,e3,e4,e5,e6⟩:=r.own j c q;refine⟨b,u,e1,iu b e2 λz=>?_,e3,e4,e5,e6.mono mono⟩;subst z;exact hj (r.inj i j (.d ks vs) c b h q h1 e1)
 .rcases mK e1 with⟨_,z,_⟩|⟨n1,e1⟩
  .exact(oY z).elim
  .rcases mK e2 with⟨_,z,_⟩|⟨n2,e2⟩
   .exact(oY z).elim
   .exact r.inj j k c e b e1 e2 s1 s2
def sL.unlend(h:H a=some (.dK kvs)):sL (K0 (Z.filter λb=>decide (b≠a)) H) (K0 Z H):=λb u e=>by
 obtain⟨h1,h2⟩:=Z4 e;by_cases hb:b∈Z
 .by_cases ha:b=a
  .subst ha;rw[h]at h2;cases h2;exact .inr ⟨_,rfl⟩
  .exact u3 (B7.mpr ⟨hb,Y1 ha⟩) h1
 .rw[K8 hb];exact .inl h2
end
def rH(i:Nat)(f:ED):ED:=λY=>match Y[i]? with
 |some (some (.od ks vs))=>(match f (Y.set i (some (.sh (.dct ks vs)))) with|some d=>if tE d=true then some d else none|none=>none)
 |_=>none
section
variable{X:Cx}{e:Expr}{f:ED}
def JR(i:Nat)(h:ZE X e f):ZE X e (rH i f):=
 ⟨have h:=h.h;
 j6 h λU H Q h_=>by
  refine f7 h_ λY d B H0 V0 Z e r q=>?_;unfold rH at e;split at e
  .rename_i ks vs hρ;split at e
   .rename_i d' ed;split at e
    .rename_i aB;cases e;obtain⟨a,kvs,ha,r'⟩:=r.lend hρ;exact⟨_,d,B,H0,V0,_,ed,r',λv H' s rr=>q v H' s (rr.less (sL.unlend (s _ _ ha)) aB)⟩
    .cases e
   .cases e
  .cases e⟩
end
def oG:Nat->(EB)->(EO)->EO
 | 0,_,_,_=>none
 |n+1,fc,g,Y=>match fc Y with
  |some true=>(match g Y with
   |some (.nx Y')=>oG n fc g Y'
   |some (.ct Y')=>oG n fc g Y'
   |some (.bk Y')=>some (.nx Y')
   |some (.rt v)=>some (.rt v)
   |none=>none)
  |some false=>some (.nx Y)
  |none=>none
section
variable{X:Cx}{c:Expr}{body:List Dl}{fc:EB}{g:EO}{pos:Hi}
def GL(n:Nat)(hp:N4 (Aw X.prog X.w) X.A X.env X.xe)(hc:ZT X c fc)(hb:ZB X body g):ZS X (.While c body [] pos) (oG n fc g):=
 ⟨have hc:=hc.h;
 have hb:=hb.h;
 mY (ϴ hp hc hb) λE U H h_=>by
  refine f7 h_ λY o B H0 V0 Z e r q=>?_;refine⟨λm U' H'=>∃Y' Z',oG m fc g Y'=some o/\SR X.K B H0 V0 H' Z' U' Y',⟨n,Y,Z,e,r⟩,?_⟩;rintro m U1 H1 ⟨Y1,Z1,e1,r1⟩
  cases m with
  |zero=>cases e1
  |succ m=>
   unfold oG at e1
   cases hf:fc Y1 with
   |none=>rw[hf]at e1;cases e1
   |some b=>
    rw[hf]at e1
    cases b with
    |false=>
     cases e1;exact⟨Y1,false,B,H0,V0,Z1,hf,r1,λH2 s2=>uI (q U1 H2 Z1 (r1.mono s2))⟩
    |true=>
     refine⟨Y1,true,B,H0,V0,Z1,hf,r1,λH2 s2=>sT ⟨λU' H'=>∃Y' Z',oG m fc g Y'=some o/\SR X.K B H0 V0 H' Z' U' Y',λU' H' ⟨Y',Z',h1,h2⟩=>⟨m,E4 m,Y',Z',h1,h2⟩,?_⟩⟩;dsimp only at e1
     cases hg:g Y1 with
     |none=>rw[hg]at e1;cases e1
     |some og=>
      rw[hg]at e1
      cases og with
      |nx Y2=>exact⟨Y1,.nx Y2,B,H0,V0,Z1,hg,r1.mono s2,λU' H' Z' r'=>⟨Y2,Z',e1,r'⟩⟩
      |ct Y2=>exact⟨Y1,.ct Y2,B,H0,V0,Z1,hg,r1.mono s2,λU' H' Z' r'=>⟨Y2,Z',e1,r'⟩⟩
      |bk Y2=>cases e1;exact⟨Y1,.bk Y2,B,H0,V0,Z1,hg,r1.mono s2,λU' H' Z' r'=>q U' H' Z' r'⟩
      |rt v=>
       cases e1
       exact⟨Y1,.rt v,B,H0,V0,Z1,hg,r1.mono s2,λv' H' s' rr=>q v' H' s' rr⟩⟩
def vN(i:Nat)(f:ED):EO:=λY=>match y3 i Y with
 |some (.int a)=>(match f Y with|some (.int b)=>some (.nx (Y.set i (some (.sh (.int (a+b))))))|_=>none)
 |_=>none
def JT{i:Nat}{x:Ba}(he:ZE X e f)(hN:X.N.Nodup)(hi:X.N[i]?=some x:=by rfl)(hx:m9 X.env.scope x:=by first|exact E7 rfl|exact D3 rfl)(hf:X.fn x=true\/X.env.scope.names.lookup x=some .local:=by first|exact .inl rfl|exact .inr rfl):ZS X (.AugAssign (.Name x aS) .Add e pos) (vN i f):=
 ⟨have he:=he.h;
 mY (Ő hN hi hx he v0G hf) λE U H h_=>by
  refine f7 h_ λY o B H0 V0 Z e r q=>?_;unfold vN at e
  cases hv:y3 i Y with
  |none=>rw[hv]at e;cases e
  |some d=>
   rw[hv]at e
   cases d with
   |int a=>
    dsimp only at e
    cases hf':f Y with
    |none=>rw[hf']at e;cases e
    |some d2=>
     rw[hf']at e
     cases d2 with
     |int b=>
      cases e;obtain⟨v,h1,h2⟩:=r.sh i _ (Pi hv)
      obtain rfl:=v7.mp h2
      refine⟨_,h1,Y,.int b,B,H0,V0,Z,hf',r,λy H1 s1 r1=>?_⟩
      obtain rfl:=v7.mp r1
      exact⟨a,b,rfl,rfl,q _ H1 Z ((r.mono s1).set (v7.mpr rfl))⟩
     |non=>cases e
     |bl _=>cases e
     |str _=>cases e
     |tup _=>cases e
     |lst _=>cases e
     |dct _ _=>cases e
   |non=>cases e
   |bl _=>cases e
   |str _=>cases e
   |tup _=>cases e
   |lst _=>cases e
   |dct _ _=>cases e⟩
def v2E:List V->Hp->VK->Prop:=λxs H Q=>∃a kvs,xs=[.ref a]/\Rd H a (.dK kvs)/\Q (.int kvs.length) H
theorem X0:lC X (.builtin "len") v2E:=by
 intro aa s U H xs vs Q I rv h;obtain⟨a,kvs,rfl,e,q⟩:=h
 cases rv with
 |cons r1 r2=>cases r2;cases r1;exact v26 I e λt s' I'=>⟨.int kvs.length,H,I',⟨t,rfl⟩,q⟩
def vP(f:ED):ED:=λY=>match f Y with|some (.dct ks _)=>some (.int ks.length)|_=>none
def Tr{p:Hi}(hm:X.mg "len" = none)(h:ZE X a f)(hg:Gl X "len":=by rfl)(he:J0 a=true:=by rfl):ZE X (.Call (.Name "len" p) [a] [] pos) (vP f):=
 ⟨have h:=h.h;
 j6 (tW X0 hg hm PySem.boot_len (J7 h Y5 (w9 he)) ∅ ∅ (w9 he) (K7 rfl)) λU H Q h_=>by
  refine f7 h_ λY d B H0 V0 Z e r q=>?_;unfold vP at e
  cases hf:f Y with
  |none=>rw[hf]at e;cases e
  |some d'=>
   rw[hf]at e
   cases d' with
   |dct ks vs=>cases e;refine⟨Y,_,B,H0,V0,Z,hf,r,λv H' s rr=>?_⟩;obtain⟨a',kvs,rfl,h1,h2,_⟩:=mQ.mp rr;exact⟨a',kvs,rfl,.inl (Z4 h1).2,q _ H' s (by rw[<-h2,A3];exact v7.mpr rfl)⟩
   |non=>cases e
   |bl _=>cases e
   |int _=>cases e
   |str _=>cases e
   |tup _=>cases e
   |lst _=>cases e⟩
end
def Û:V->List V->Hp->VK->Prop:=λx xs H Q=>∃a kvs k y,x = .ref a/\xs=[kV k,y]/\H a=some (.dK kvs)/\kvs.length<sizeLine/\(∀v,l6 kvs k=some v->Q v H)/\(l6 kvs k=none->Q y (upd H a (.dK (lX kvs k y))))
def p9(kvs more:List (d4×V)):List (d4×V):=more.foldl (λaf kv=>lX af kv.1 kv.2) kvs
def Þ:V->List V->Hp->VK->Prop:=λx xs H Q=>∃a b kvs more,x = .ref a/\xs=[.ref b]/\a≠b/\H a=some (.dK kvs)/\H b=some (.dK more)/\kvs.length+more.length<=sizeLine/\Q .non (upd H a (.dK (p9 kvs more)))
theorem OL:∀(more kvs:List (d4×V)),(p9 kvs more).length<=kvs.length+more.length
 | [],kvs=>Ad _
 |p::r,kvs=>by have h1:=OL r (lX kvs p.1 p.2);have h2:=DN kvs p.1 p.2;show (p9 (lX kvs p.1 p.2) r).length<=_;rw[Au];omega
theorem KV.merge:∀{more:List (d4×V)} {ms:List (d4×A9)},KV more ms->∀{kvs:List (d4×V)} {vs:List (d4×A9)},KV kvs vs->KV (p9 kvs more) (merged vs ms):=λ{more ms} h=>by
 unfold KV at h
 induction h with
 |nil=>intro kvs vs r;exact r
 | @cons p q ps qs hq t ih=>
  intro kvs vs r
  have:=KV.put r p.1 hq.2
  rw[hq.1]at this;show KV (p9 (lX kvs p.1 p.2) ps) (merged (stored vs q.1 q.2) qs);rw[hq.1];exact ih this
section
variable{X:Cx}
def Ys:BM X "dict.setdefault" Û:=by
 intro aa s U H x xs v us Q I rx rv h;obtain⟨a,kvs,k,y,rfl,rfl,e,hl,q1,q2⟩:=h;cases rx;obtain⟨u1,u2,rfl,r1,r2⟩:=rv.two;obtain⟨z,hd,vs,aN,dd⟩:=vS I.hok e;refine O6 PySem.F.slot_dict_setdefault dd.typeIs PySem.F.entry_dict_setdefault (PySem.F.args_dict_setdefault_3 _ _ _) (kt_meets_setdefault (mX X.prog X.w) a (xU r1) hd u2) ⟨vs,dd,by rw[<-aN.length];exact z,λv hv=>?_,λhn h' dn hs=>?_⟩
 .have:=aN.val k
  rw[hv]at this
  cases hk:l6 kvs k with
  |none=>rw[hk]at this;exact this.elim
  |some w'=>rw[hk]at this;exact⟨w',H,I.tok _,this,q1 w' hk⟩
 .have:=aN.val k
  rw[hn]at this
  cases hk:l6 kvs k with
  |some w'=>rw[hk]at this;exact this.elim
  |none=>
   have he:∃q,h'.get? a=some q:=let ⟨q,_,_,hq,_⟩:=dn;⟨q,hq⟩
   have bR:(lX kvs k y).length<=sizeLine:=by have:=DN kvs k y;omega
   exact⟨y,_,EC I (by rw[e];exact L6) hs he (EW bR hd (aN.put k r2) dn),r2,q2 hk⟩
def Yt:BM X "dict.update" Þ:=by
 intro aa s U H x xs v us Q I rx rv h;obtain⟨a,b,kvs,more,rfl,rfl,bW,e,eb,hl,q⟩:=h;cases rx;obtain⟨u1,rfl,r1⟩:=rv.one;cases r1;obtain⟨z,hd,vs,aN,dd⟩:=vS I.hok e;obtain⟨z2,bw,ms,iM,cB⟩:=vS I.hok eb;refine O6 PySem.F.slot_dict_update dd.typeIs PySem.F.entry_dict_update (PySem.F.args_dict_update_2 _ _) (meets_dict_update (mX X.prog X.w) a b bW bw) ⟨vs,ms,dd,cB,by rw[<-aN.length,<-iM.length];exact hl,λh' dn _ hs=>?_⟩
 have he:∃q,h'.get? a=some q:=let ⟨q,_,_,hq,_⟩:=dn;⟨q,hq⟩
 have bR:(p9 kvs more).length<=sizeLine:=C7 (OL more kvs) hl;exact⟨.non,_,EC (t':=s.toks) I (by rw[e];exact L6) hs he (EW bR hd (KV.merge iM aN) dn),rfl,q⟩
end
section
variable{X:Cx}{a b:Expr}{fa fb:ED}{pos:Hi}
def uP(i:Nat)(fk fv:ED):EO:=λY=>match qF i Y with
 |some d=>(match fk Y with
  |some kd=>(match rQ kd with
   |some k=>(match fv Y with
    |some v=>if d.1.Nodup/\d.1.length<f8 then (if (lD d.1 d.2 k).isSome=true then some (.nx Y) else some (.nx (Y.set i (some (.od (lI d.1 d.2 k v).1 (lI d.1 d.2 k v).2))))) else none
    |none=>none)
   |none=>none)
  |none=>none)
 |none=>none
def GY{i:Nat}{x:Ba}{p1 p2 p3:Hi}(hk:ZE X a fa)(cG:ZE X b fb)(hN:X.N[i]?=some x:=by rfl)(hv:mS X.env.scope x:=by first|exact E7 rfl|exact D3 (E7 rfl)|exact D3 (D3 rfl))(hd:(x==("__debug__":Ba))=false:=by decide)(aO:(x==("__classdict__":Ba))=false:=by decide)(aD:Fb (.Name x p1) "setdefault" X.env (Ec (.Name x p1) X.env)=Ec (.Name x p1) X.env:=by rfl) (bd:((F0 p3 (Bt [a,b] X.env)).all (λx=>!x.1)&&(M9 p3 (Iu [] X.env)).all (λx=>x.1.isSome)
   && decide (([a,b]:List Expr).length+([]:List Hu).length+(if ([]:List Hu).isEmpty then 0 else 1)<30))=true:=by rfl) (aE:(p2.endLine==p3.line)=true:=by rfl) (hs:J0 a=true:=by rfl) (bE:J0 b=true:=by rfl) (cy:[b].all J0=true:=by rfl) (ca:Er (.Call (.Attribute (.Name x p1) "setdefault" p2) [a,b] [] p3) none pos.line X.env=Ci false:=by rfl): ZS X (.Expr (.Call (.Attribute (.Name x p1) "setdefault" p2) [a,b] [] p3) pos) (uP i fa fb):=
 ⟨have hk:=hk.h;
 have cG:=cG.h;
 mY (AJ (xX Iw PySem.F.slot_dict_setdefault PySem.F.type_dict_setdefault Ys (nW hN hv hd aO) (J7 hk (J7 cG Y5 (w9 bE)) (w9 hs)) aD bd aE (w9 hs) (K7 cy)) ca) λE U H h_=>by
  refine f7 h_ λY o B H0 V0 Z e r q=>?_;unfold uP at e
  cases ed:qF i Y with
  |none=>rw[ed]at e;cases e
  |some dd=>
   rw[ed]at e;dsimp only at e
   cases ek:fa Y with
   |none=>rw[ek]at e;cases e
   |some kd=>
    rw[ek]at e;dsimp only at e
    cases gq:rQ kd with
    |none=>rw[gq]at e;cases e
    |some k=>
     rw[gq]at e;dsimp only at e
     cases ev:fb Y with
     |none=>rw[ev]at e;cases e
     |some v=>
      rw[ev]at e;dsimp only at e;by_cases hz:dd.1.Nodup/\dd.1.length<f8
      .rw[y6 hz]at e;obtain⟨n,kvs,h1,h2,hb,h3,h4,h5,h6⟩:=r.od i dd.1 dd.2 (vH ed);refine⟨.ref n,h1,.inr (.inr (.inl ⟨rfl,.inl ⟨_,h4⟩⟩)),Y,kd,B,H0,V0,Z,ek,r,λy H1 s1 r1=>⟨Y,v,B,H0,V0,Z,ev,r.mono s1,λz H2 s2 r2=>?_⟩⟩
       obtain rfl:=wO gq r1
       have ab:kvs.length<sizeLine:=by
        have:kvs.length=dd.1.length:=by rw[<-h5,A3]
        rw[this];exact zW (Dc hz.2)
       have hlk:(lD dd.1 dd.2 k).isSome=(l6 kvs k).isSome:=by rw[<-h5];exact zF h6
       have R2:=(r.mono s1).mono s2;refine⟨n,kvs,k,z,rfl,rfl,s2 _ _ (s1 _ _ h4),ab,λw' hw=>?_,λhw=>?_⟩
       .rw[hw]at hlk;rw[y6 (show (lD dd.1 dd.2 k).isSome=true from hlk)]at e;cases e;exact q U H2 Z R2
       .rw[hw]at hlk;rw[y8 (show ¬(lD dd.1 dd.2 k).isSome=true by rw[hlk];exact Ay)]at e
        cases e;show E.nx U (upd H2 n (.dK (lX kvs k z)));rw[CW k z kvs (by rw[h5];exact hz.1)]
        obtain⟨p1,p2⟩:=EK (j:=k) (h6.mono (x9 (s1.trans s2))) r2;rw[h5]at p1 p2;exact q U _ Z (R2.updC (c:=.d dd.1 dd.2) (e:=.d (lI dd.1 dd.2 k v).1 (lI dd.1 dd.2 k v).2) (vH ed) h1 ⟨_,rfl,p1,p2⟩)
      .rw[y8 hz]at e;cases e⟩
def pO:List d4->List D->List d4->List D->List d4×List D
 |ks,vs,k::r,v::w=>pO (lI ks vs k v).1 (lI ks vs k v).2 r w
 |ks,vs,_,_=>(ks,vs)
theorem PK(j:d4)(d:V):∀kvs:List (d4×V),∀y∈(oS kvs j d).map (·.1),y∈kvs.map (·.1)\/y=j
 | [],y,h=>.inr (by simpa [oS] using h)
 |p::r,y,h=>by
  unfold oS at h;by_cases hp:p.1=j
  .rw[y6 hp]at h;exact .inl h
  .rw[y8 hp,Ai]at h;rcases Ac.mp h with z|z
   .exact .inl (by rw[z];exact A6)
   .rcases PK j d r y z with q|q
    .exact .inl (A7 _ q)
    .exact .inr q
theorem Qt(j:d4)(d:V):∀kvs:List (d4×V),(kvs.map (·.1)).Nodup->((oS kvs j d).map (·.1)).Nodup
 | [],_=>by simp[oS]
 |p::r,h=>by
  rw[Ai,By]at h;unfold oS;by_cases hp:p.1=j
  .rw[y6 hp];exact By.mpr h
  .rw[y8 hp,Ai,By];refine⟨λz=>?_,Qt j d r h.2⟩;rcases PK j d r _ z with q|q
   .exact h.1 q
   .exact hp q
theorem Pz{K:A5}{H:Hp}:∀(more kvs:List (d4×V)) (vs fx:List D),J3 K H vs (kvs.map (·.2))->J3 K H fx (more.map (·.2))->(kvs.map (·.1)).Nodup ->
  (p9 kvs more).map (·.1)=(pO (kvs.map (·.1)) vs (more.map (·.1)) fx).1/\J3 K H (pO (kvs.map (·.1)) vs (more.map (·.1)) fx).2 ((p9 kvs more).map (·.2))
 | [],kvs,vs,fx,h1,h2,hn=>by
  have:pO (kvs.map (·.1)) vs (([]:List (d4×V)).map (·.1)) fx=(kvs.map (·.1),vs):=by cases fx<;>rfl
  rw[this];exact⟨rfl,h1⟩
 |p::r,kvs,vs,[],h1,h2,hn=>by cases J9.mp h2
 |p::r,kvs,vs,v::fx,h1,h2,hn=>by
  obtain⟨x,xs,ex,g1,g2⟩:=j7.mp h2;rw[Ai]at ex;obtain⟨e1,e2⟩:=M7 ex;subst e1;rw[<-e2]at g2;obtain⟨p1,p2⟩:=EK (j:=p.1) h1 g1
  have hm:p9 kvs (p::r)=p9 (oS kvs p.1 p.2) r:=by show p9 (lX kvs p.1 p.2) r=_;rw[CW p.1 p.2 kvs hn]
  have ih:=Pz r (oS kvs p.1 p.2) (lI (kvs.map (·.1)) vs p.1 v).2 fx p2 g2 (Qt _ _ _ hn);rw[p1]at ih;rw[hm];exact ih
def FR(i:Nat)(f:ED):EO:=λY=>match qF i Y with
 |some d=>(match f Y with
  |some (.dct ks vs)=>if d.1.Nodup/\d.1.length+ks.length<=f8 then some (.nx (Y.set i (some (.od (pO d.1 d.2 ks vs).1 (pO d.1 d.2 ks vs).2)))) else none
  |_=>none)
 |none=>none
def û{i:Nat}{x:Ba}{p1 p2 p3:Hi}(h:ZE X a fa)(hN:X.N[i]?=some x:=by rfl)(hv:mS X.env.scope x:=by first|exact E7 rfl|exact D3 (E7 rfl)|exact D3 (D3 rfl))(hd:(x==("__debug__":Ba))=false:=by decide)(aO:(x==("__classdict__":Ba))=false:=by decide)(aD:Fb (.Name x p1) "update" X.env (Ec (.Name x p1) X.env)=Ec (.Name x p1) X.env:=by rfl) (bd:((F0 p3 (Bt [a] X.env)).all (λx=>!x.1)&&(M9 p3 (Iu [] X.env)).all (λx=>x.1.isSome)
   && decide (([a]:List Expr).length+([]:List Hu).length+(if ([]:List Hu).isEmpty then 0 else 1)<30))=true:=by rfl) (aE:(p2.endLine==p3.line)=true:=by rfl) (hs:J0 a=true:=by rfl) (ca:Er (.Call (.Attribute (.Name x p1) "update" p2) [a] [] p3) none pos.line X.env=Ci false:=by rfl): ZS X (.Expr (.Call (.Attribute (.Name x p1) "update" p2) [a] [] p3) pos) (FR i fa):=
 ⟨have h:=h.h;
 mY (AJ (xX Iw PySem.F.slot_dict_update PySem.F.type_dict_update Yt (nW hN hv hd aO) (J7 h Y5 (w9 hs)) aD bd aE (w9 hs) (K7 rfl)) ca) λE U H h_=>by
  refine f7 h_ λY o B H0 V0 Z e r q=>?_;unfold FR at e
  cases ed:qF i Y with
  |none=>rw[ed]at e;cases e
  |some dd=>
   rw[ed]at e;dsimp only at e
   cases ef:fa Y with
   |none=>rw[ef]at e;cases e
   |some d'=>
    rw[ef]at e
    cases d' with
    |dct ks vs=>
     dsimp only at e;by_cases hz:dd.1.Nodup/\dd.1.length+ks.length<=f8
     .rw[y6 hz]at e;cases e;obtain⟨n,kvs,h1,h2,hb,h3,h4,h5,h6⟩:=r.od i dd.1 dd.2 (vH ed);refine⟨.ref n,h1,.inr (.inr (.inl ⟨rfl,.inl ⟨_,h4⟩⟩)),Y,_,B,H0,V0,Z,ef,r,λy H1 s1 r1=>?_⟩;obtain⟨m,more,rfl,g1,g2,g3⟩:=mQ.mp r1;have R1:=r.mono s1
      have dG:n≠m:=λz=>by subst z;exact(Z4 g1).1 h2
      refine⟨n,m,kvs,more,rfl,rfl,dG,s1 _ _ h4,(Z4 g1).2,?_,?_⟩
      .have e1:kvs.length=dd.1.length:=by rw[<-h5,A3]
       have e2:more.length=ks.length:=by rw[<-g2,A3]
       rw[e1,e2];exact vL hz.2
      .obtain⟨p1,p2⟩:=Pz more kvs dd.2 vs (h6.mono (x9 s1)) g3 (by rw[h5];exact hz.1)
       rw[h5,g2]at p1 p2;exact q U _ Z (R1.updC (c:=.d dd.1 dd.2) (e:=.d (pO dd.1 dd.2 ks vs).1 (pO dd.1 dd.2 ks vs).2) (vH ed) h1 ⟨_,rfl,p1,p2⟩)
     .rw[y8 hz]at e;cases e
    |non=>cases e
    |bl _=>cases e
    |int _=>cases e
    |str _=>cases e
    |tup _=>cases e
    |lst _=>cases e⟩
end
section
variable{X:Cx}{a:Expr}{f:ED}{p p2 p3 pos:Hi}
def v2F:List V->Hp->VK->Prop:=λxs H Q=>∃a kvs,xs=[.ref a]/\H a=some (.dK kvs)/\∀p,H p=none->Q (.ref p) (upd H p (.dK kvs))
def Zx:lC X (.type "dict") v2F:=by
 intro aa s U H xs vs Q I rv h;obtain⟨a,kvs,rfl,e,q⟩:=h;obtain⟨u,rfl,r1⟩:=rv.one;cases r1;obtain⟨z,hd,ms,aN,dd⟩:=vS I.hok e;refine kt_call_dict hd dd (by rw[<-aN.length];exact z) λh' dn hsb=>?_
 have kp:∀b o,s.heap.get? b=some o->h'.get? b=some o:=λb o e=>hsb.extBut b o (An (Aj e)) (A8 _ e);have hS:(s.heap.objs.size==G6)=false:=beq_false_of_ne (Cw I.big);exact⟨.ref s.heap.objs.size,_,I.laid (a:=s.heap.objs.size) (o:=.dK kvs) (t':=s.toks) kp (Ad _) (EW z hS aN dn),rfl,q _ (I.hok.fresh (Ad _))⟩
def zS(f:ED):J5->Option (List d4×List D):=λY=>match f Y with|some (.dct ks vs)=>some (ks,vs)|_=>none
theorem QH{ds:List d4×List D}(e:zS f Y=some ds):f Y=some (.dct ds.1 ds.2):=by
 unfold zS at e
 cases hf:f Y with
 |none=>rw[hf]at e;cases e
 |some d=>
  rw[hf]at e
  cases d with
  |dct ks vs=>cases e;rfl
  |non=>cases e
  |bl _=>cases e
  |int _=>cases e
  |str _=>cases e
  |tup _=>cases e
  |lst _=>cases e
def Zd(hm:X.mg "dict" = none)(h:ZE X a f)(hg:Gl X "dict":=by rfl)(he:J0 a=true:=by rfl): BJ X (.Call (.Name "dict" p) [a] [] pos) (zS f):=
 ⟨have h:=h.h;
 j6 (oN Zx hg hm ‹_› (J7 h Y5 (w9 he)) ∅ ∅ (w9 he) (K7 rfl)) λU H Q h_=>by
  refine f7 h_ λY ds B H0 V0 Z e r q=>?_;refine⟨Y,_,B,H0,V0,Z,QH e,r,λv H1 s1 rr=>?_⟩;obtain⟨a',kvs,rfl,g1,g2,g3⟩:=mQ.mp rr;refine⟨a',kvs,rfl,(Z4 g1).2,λm hm'=>?_⟩;have sn:=u9 (o:=HO.dK kvs) hm'
  exact q m kvs _ (s1.trans sn) (s1.free hm') w6 g2 (g3.mono (rC hm' sn))⟩
abbrev yO(a:As):Ka:={ cls:=.type "dict_values",data:=.fields #[.ref a] }
def v1H:V->List V->Hp->VK->Prop:=λx xs H Q=>∃a kvs,x = .ref a/\xs=[]/\H a=some (.dK kvs)/\∀p,H p=none->Q (.ref p) (upd H p (.frz (yO a) (.own a)))
def Ã:BM X "dict.values" v1H:=by
 intro aa s U H x xs v us Q I rx rv h;obtain⟨a,kvs,rfl,rfl,e,q⟩:=h;cases rx
 obtain rfl:=rv.zero
 obtain⟨z,hd,vs,aN,dd⟩:=vS I.hok e;refine O6 PySem.F.slot_dict_values dd.typeIs PySem.F.entry_dict_values (PySem.F.args_dict_values_1 _) (meets_dict_values (mX X.prog X.w) a hd) ⟨⟨vs,dd⟩,?_⟩;exact⟨.ref s.heap.objs.size,_,I.laid (a:=s.heap.objs.size) (o:=.frz (yO a) (.own a)) (t':=s.toks) (λ_ _ q=>A8 _ q) (Ad _) ⟨Ak _ rfl,_,Ak _ rfl⟩,rfl,q _ (I.hok.fresh (Ad _))⟩
def v0P:List V->Hp->VK->Prop:=λxs H Q=>∃v a kvs,xs=[.ref v]/\H v=some (.frz (yO a) (.own a))/\H a=some (.dK kvs)/\∀l,H l=none->Q (.ref l) (upd H l (.lst (kvs.map (·.2))))
theorem ſ{kvs:List (d4×V)}{vs:List (d4×A9)}(h:KV kvs vs):Y4 (kvs.map (·.2)) (vs.map (·.2)):=by
 unfold KV at h
 induction h with
 |nil=>exact .nil
 |cons hq t ih=>exact .cons hq.2 ih
def Zy(hc:X.calm=true):lC X (.type "list") v0P:=by
 intro aa s U H xs us Q I rv h;obtain⟨v,a,kvs,rfl,ev,e,q⟩:=h;obtain⟨u,rfl,r1⟩:=rv.one;cases r1;obtain⟨z,hd,vs,aN,dd⟩:=vS I.hok e;have hv:s.heap.get? v=some (yO a):=(I.hok v _ ev).1;obtain⟨o,es,ep,ho,h1⟩:=dd;have ab:kvs.length=vs.length:=aN.length;refine PySem.W.kdl_call (PySem.W.kdl_values (knd:=mX X.prog X.w) (kvs:=vs) (ep:=ep)) (I.ok.hd hc) ⟨⟨_,hv,rfl,rfl⟩,⟨o,es,ho,h1⟩⟩ (by rw[<-ab];exact z) λh' tk aT c' kp hget aC=>?_
 have eJ:aT.toList=vs.map (·.2):=PySem.W.kdl_vals_eq aT.toList (by rw[Ar];exact aC.1) λj w' hw=>aC.2 j w' (by rw[<-C0];exact hw)
 refine⟨.ref s.heap.objs.size,_,I.laid (a:=s.heap.objs.size) (o:=.lst (kvs.map (·.2))) (t':=tk) kp (Ad _) ⟨by rw[A3];exact z,aT.toList,c',by rw[eJ];exact ſ aN,by rw[hget]⟩,rfl,q _ (I.hok.fresh (Ad _))⟩
def xQ(f:ED):EL:=λY=>(zS f Y).map (·.2)
def OD(hc:X.calm=true)(hm:X.mg "list" = none)(h:ZE X a f)(hg:Gl X "list":=by rfl)(aD:Fb a "values" X.env (Ec a X.env)=Ec a X.env:=by rfl)(aE:(p2.endLine==p3.line)=true:=by rfl): ZF X (.Call (.Name "list" p) [.Call (.Attribute a "values" p2) [] [] p3] [] pos) (xQ f):=
 ⟨have h:=h.h;
 j6 (oN (Zy hc) hg hm ‹_› (J7 (ń Iw PySem.F.slot_dict_values PySem.F.type_dict_values Ã h aD aE) Y5 (w9 rfl)) ∅ ∅ (w9 rfl) (K7 rfl)) λU H Q h_=>by
  refine f7 h_ λY zs B H0 V0 Z e r q=>?_;unfold xQ at e;obtain⟨ds,ed,rfl⟩:=B5.mp e;refine⟨Y,_,B,H0,V0,Z,QH ed,r,λv H1 s1 rr=>?_⟩;obtain⟨a',kvs,rfl,g1,g2,g3⟩:=mQ.mp rr;have ga:=(Z4 g1).2;refine⟨.inr (.inr (.inl ⟨rfl,.inl ⟨_,ga⟩⟩)),a',kvs,rfl,rfl,ga,λm hm'=>?_⟩;have sm:=u9 (o:=HO.frz (yO a') (.own a')) hm';refine⟨m,a',kvs,rfl,w6,sm _ _ ga,λl hl=>?_⟩;have sl:=u9 (o:=HO.lst (kvs.map (·.2))) hl
  have bn:H1 l=none:=sm.free hl
  exact q l _ _ (s1.trans (sm.trans sl)) (s1.free bn) w6 (g3.mono (rC bn (sm.trans sl)))⟩
end
def BH(f:J5->Option (List d4×List D)):ED:=λY=>(f Y).map λd=>.dct d.1 d.2
section
variable{X:Cx}{e:Expr}
def UU(h:BJ X e f):ZE X e (BH f):=
 ⟨have h:=h.h;
 j6 h λU H Q h_=>by
  refine f7 h_ λY d B H0 V0 Z e r q=>?_;unfold BH at e;obtain⟨ds,he,rfl⟩:=B5.mp e;refine⟨Y,ds,B,H0,V0,Z,he,r,λa kvs H' s hn ha hk hr=>q _ H' s (mQ.mpr ⟨a,kvs,rfl,?_,hk,hr.mono (qD λb hb=>A7 _ hb)⟩)⟩;rw[K8 (r.newer hn)]
  exact ha⟩
end
def kW(H:Hp):List As->List (List Int)->Prop
 | [],[]=>True
 |b::bs,ns::aI=>H b=some (.lst (ns.map V.int))/\kW H bs aI
 |_,_=>False
theorem kW.len:∀{bs:List As} {aI:List (List Int)},kW H bs aI->bs.length=aI.length
 | [],[],_=>rfl
 |b::bs,ns::aI,h=>by rw[Au,Au,kW.len h.2]
 | [],_::_,h=>h.elim
 |_::_,[],h=>h.elim
theorem kW.mono(e:J4 H H'):∀{bs:List As} {aI:List (List Int)},kW H bs aI->kW H' bs aI
 | [],[],_=>trivial
 |b::bs,ns::aI,h=>⟨e _ _ h.1,kW.mono e h.2⟩
 | [],_::_,h=>h.elim
 |_::_,[],h=>h.elim
theorem kW.get:∀{bs:List As} {aI:List (List Int)} {j:Nat},kW H bs aI->j<bs.length->∃b ns,bs[j]?=some b/\aI[j]?=some ns/\H b=some (.lst (ns.map V.int))
 | [],[],j,_,hj=>u3 hj (Fx _)
 |b::bs,ns::aI,0,h,_=>⟨b,ns,rfl,rfl,h.1⟩
 |b::bs,ns::aI,j+1,h,hj=>by
  obtain⟨b',bH,h1,h2,h3⟩:=kW.get (j:=j) h.2 (by rw[Au]at hj;omega)
  exact⟨b',bH,by rw[Eh];exact h1,by rw[Eh];exact h2,h3⟩
 | [],_::_,_,h,_=>h.elim
 |_::_,[],_,h,_=>h.elim
theorem kW.other{c:As}:∀{bs:List As} {aI:List (List Int)},c∉bs->kW H bs aI->kW (upd H c o) bs aI
 | [],[],_,_=>trivial
 |b::bs,ns::aI,hn,h=>⟨(by
   have am:b≠c:=λz=>hn (by rw[z];exact A6)
   rw[j3 am]
   exact h.1),kW.other (λz=>hn (A7 _ z)) h.2⟩
 | [],_::_,_,h=>h.elim
 |_::_,[],_,h=>h.elim
theorem kW.upd{c:As}{ms:List Int}:∀{bs:List As} {aI:List (List Int)} {j:Nat},bs.Nodup->kW H bs aI->bs[j]?=some c->kW (upd H c (.lst (ms.map V.int))) bs (aI.set j ms)
 | [],[],j,_,_,hj=>by simp at hj
 |b::bs,ns::aI,0,hn,h,hj=>by
  have:b=c:=by simpa using hj
  subst this;exact⟨w6,kW.other (By.mp hn).1 h.2⟩
 |b::bs,ns::aI,j+1,hn,h,hj=>by
  rw[Eh]at hj;have bB:=By.mp hn;have am:b≠c:=λz=>bB.1 (by rw[z];exact C6 hj)
  exact⟨by rw[j3 am];exact h.1,kW.upd bB.2 h.2 hj⟩
 | [],_::_,_,_,h,_=>h.elim
 |_::_,[],_,_,h,_=>h.elim
theorem kW.new{H:Hp}:∀(bs:List As),(∀b∈bs,H b=some (.lst []))->kW H bs (Bf bs.length [])
 | [],_=>trivial
 |b::bs,h=>⟨h b A6,kW.new bs λx hx=>h x (A7 _ hx)⟩
def FZ(ns:List Int):D:=.lst (ns.map D.int)
theorem kW.rep{K:A5}{H:Hp}{B:List As}:∀{bs:List As} {aI:List (List Int)},(∀b∈bs,b∉B)->kW H bs aI->J3 K (K0 B H) (aI.map FZ) (bs.map V.ref)
 | [],[],_,_=>J9.mpr rfl
 |b::bs,ns::aI,hb,h=>by rw[Ai,Ai];refine j7.mpr ⟨_,_,rfl,K6.mpr ⟨b,_,rfl,i7.of (by rw[K8 (hb b A6)];exact h.1),Y9.mpr rfl⟩,kW.rep (λx hx=>hb x (A7 _ hx)) h.2⟩
 | [],_::_,_,h=>h.elim
 |_::_,[],_,h=>h.elim
section
variable{K:A5}{B Z:List As}{H0 V0 H H':Hp}{U:St}{Y:J5}
def SR.moreL(r:SR K B H0 V0 H Z U Y)(as:List As)(hn:∀a∈as,H a=none)(e:J4 H H')(he:∀a∈as,∃o,H' a=some o):SR K B H0 V0 H' (as++Z) U Y:=by
 have hl:J4 (K0 Z H) (K0 (as++Z) H'):=λb u q=>by
  obtain⟨h1,h2⟩:=Z4 q
  rw[K8 (by
   rw[Az];rintro (z|z)
   .rw[hn b z]at h2;cases h2
   .exact h1 z)]
  exact e b u h2
 exact⟨r.same.trans e,r.tb.mono e,r.vis.trans hl,λb hb=>Ab _ (r.sub b hb),λz hz=>(Az.mp hz).elim (he z) λq=>let ⟨u,h⟩:=r.zs z q;⟨u,e _ _ h⟩,
  λi d h=>let ⟨v,h1,h2⟩:=r.sh i d h;⟨v,h1,h2.mono hl⟩,
  λi c h=>let ⟨b,o,h1,h2,hb,h3,h4,h5⟩:=r.own i c h;⟨b,o,h1,Ab _ h2,hb,h3,e _ _ h4,h5.mono hl⟩,r.inj,r.len⟩
def SR.skip(r:SR K B H0 V0 H Z U Y){i:Nat}(h:Y[i]?=some none):SR K B H0 V0 H Z (U.set i v) Y:=by
 have ne:∀{j:Nat} {c:Cell},Y[j]?=some (some c)->i≠j:=λ{j c} q z=>by subst z;rw[h]at q;cases q
 exact⟨r.same,r.tb,r.vis,r.sub,r.zs,λj d q=>let ⟨u,h1,h2⟩:=r.sh j d q;⟨u,by rw[Bb (ne q)];exact h1,h2⟩,
  λj c q=>let ⟨b,o,h1,h2⟩:=r.own j c q;⟨b,o,by rw[Bb (ne q)];exact h1,h2⟩,
  λj k c e a q1 q2 s1 s2=>r.inj j k c e a q1 q2 (by rw[Bb (ne q1)]at s1;exact s1) (by rw[Bb (ne q2)]at s2;exact s2),by rw[D1];exact r.len⟩
end
def AW(ir io iv:Nat):TS:=λD U H=>∃(l:As) (bs:List As) (a:Nat) (c:As) (xs:List V) (y:V),U[ir]?=some (some (.ref l))/\U[io]?=some (some (.int (a:Int)))/\U[iv]?=some (some y)/\H l=some (.lst (bs.map V.ref))/\bs[a]?=some c/\H c=some (.lst xs)/\xs.length<sizeLine/\D.nx U (upd H c (.lst (xs++[y])))
section
variable{X:Cx}{pos p0 p1 p2 p3 p4 p5:Hi}
def RP{xr xo xv:Ba}{ir io iv:Nat}(hNr:X.N[ir]?=some xr)(hvr:mS X.env.scope xr)(hdr:(xr==("__debug__":Ba))=false)(hcr:(xr==("__classdict__":Ba))=false)(hNo:X.N[io]?=some xo)(hvo:mS X.env.scope xo)(hdo:(xo==("__debug__":Ba))=false)(dz:(xo==("__classdict__":Ba))=false)(hNv:X.N[iv]?=some xv)(hvv:mS X.env.scope xv)(hdv:(xv==("__debug__":Ba))=false)(hcv:(xv==("__classdict__":Ba))=false)(hpx:DW (.Name xo p1):=by exact λ_ _=>rfl)(aD:Fb (.Subscript (.Name xr p0) (.Name xo p1) p2) "append" X.env (Ec (.Subscript (.Name xr p0) (.Name xo p1) p2) X.env)=Ec (.Subscript (.Name xr p0) (.Name xo p1) p2) X.env:=by rfl)
  (bd:((F0 p5 (Bt [.Name xv p4] X.env)).all (λx=>!x.1)&&(M9 p5 (Iu [] X.env)).all (λx=>x.1.isSome)
   && decide (([.Name xv p4]:List Expr).length+([]:List Hu).length+(if ([]:List Hu).isEmpty then 0 else 1)<30))=true:=by rfl)
  (aE:(p3.endLine==p5.line)=true:=by rfl)
  (ca:Er (.Call (.Attribute (.Subscript (.Name xr p0) (.Name xo p1) p2) "append" p3) [.Name xv p4] [] p5) none pos.line X.env=Ci false:=by rfl):
  PS X (.Expr (.Call (.Attribute (.Subscript (.Name xr p0) (.Name xo p1) p2) "append" p3) [.Name xv p4] [] p5) pos) (AW ir io iv):=
 mY (AJ (xX Gf PySem.F.slot_list_append PySem.F.type_list_append KF (TK Ru (nW hNr hvr hdr hcr) (nW hNo hvo hdo dz) hpx) (J7 (nW hNv hvv hdv hcv) Y5 (w9 rfl)) aD bd aE (w9 rfl) (K7 rfl)) ca)
  λD U H h_=>by
   obtain⟨l,bs,a,c,xs,y,h1,h2,h3,h4,h5,h6,h7,h8⟩:=h_;refine⟨.ref l,h1,.int (a:Int),h2,l,bs.map V.ref,(a:Int),.ref c,rfl,rfl,i7.of h4,?_,.inl ⟨rfl,xs,i7.of h6⟩,y,h3,c,xs,y,rfl,rfl,h6,h7,h8⟩;have ha:a<bs.length:=(B0.mp h5).1;unfold lL qO;rw[y6 ⋯,y6 (by rw[A3];omega)]
   show (bs.map V.ref)[((a:Int)).toNat]?=some (.ref c);rw[Av,Ao,h5];rfl
end
def FJ(q:Nat×Nat):D:=.tup [.int (q.1:Int),.int (q.2:Int)]
def AV(d:D):Option (Nat×Nat):=match d with
 | .tup [.int a,.int b]=>if 0<=a/\0<=b then some (a.toNat,b.toNat) else none
 |_=>none
def Ć{q:Nat×Nat}(h:AV d=some q):d=FJ q:=by
 unfold AV at h;split at h
 .rename_i a b;split at h
  .rename_i hz;cases h;unfold FJ;rw[Ib hz.1,Ib hz.2]
  .cases h
 .cases h
def tJ:List D->Option (List (Nat×Nat))
 | []=>some []
 |d::ds=>match AV d with|some q=>(match tJ ds with|some qs=>some (q::qs)|none=>none)|none=>none
theorem QT:∀{ds:List D} {qs:List (Nat×Nat)},tJ ds=some qs->ds=qs.map FJ
 | [],qs,h=>by cases h;rfl
 |d::ds,qs,h=>by
  unfold tJ at h
  cases hp:AV d with
  |none=>rw[hp]at h;cases h
  |some q=>
   rw[hp]at h
   cases hq:tJ ds with
   |none=>rw[hq]at h;cases h
   |some r=>rw[hq]at h;cases h;rw[Ai,<-Ć hp,<-QT hq]
def pC(aI:List (List Int))(a b:Nat):List (List Int):=aI.set a (aI.getD a []++[(b:Int)])
def sQ(aI:List (List Int))(q:Nat×Nat):List (List Int):=pC (pC aI q.1 q.2) q.2 q.1
def EZ(ir i1 i2:Nat)(Y:J5)(n:Nat)(qs:List (Nat×Nat)):Bool:=(match Y[ir]? with|some none=>true|_=>false)&&decide (n<=1000)&&decide (qs.length<=1000)&&(qs.all λq=>decide (q.1<n)&&decide (q.2<n))&&decide (i1<Y.length)&&decide (i2<Y.length)&&decide (ir≠i1)&&decide (ir≠i2)&&decide (i1≠i2)
def vQ(ir i1 i2:Nat)(fi fc:EL):EO:=λY=>match fi Y with
 |some ds=>(match fc Y with
  |some ps=>(match tJ ps with
   |some qs=>if EZ ir i1 i2 Y ds.length qs=true then some (.rt (.lst ((qs.foldl sQ (Bf ds.length [])).map FZ))) else none
   |none=>none)
  |none=>none)
 |none=>none
def GV{aI:List (List Int)}{m a b:Nat}(h:∀ns∈aI,ns.length<=m):∀ns∈pC aI a b,ns.length<=m+1:=λns hn=>by
 unfold pC at hn;rcases List.mem_or_eq_of_mem_set hn with z|z
 .have:=h ns z;omega
 .subst z;rw[Ap,Bg];refine Nat.add_le_add_right ?_ 1;rw[Cv]
  cases hq:aI[a]? with
  |none=>exact Bh _
  |some ms=>exact h ms (C6 hq)
section
variable{X:Cx}{dX fy jr:Dl}{ir i1 i2:Nat}{fi fc:EL}
def ð(S1:PS X dX (AY (xZ [none] (tI X.K fi) (sN 0) (λ_ H Q=>Q true H) (Vi FW)) (sN ir)))(S2:PS X fy (Vh (tI X.K fc) (U4 X.K 2 (LZ (sN i1) (LZ (sN i2) U3))) (Vk (AW ir i1 i2) (AW ir i2 i1))))(S3:PS X jr (Vj (AZ ir))):GG X [dX,fy,jr] (vQ ir i1 i2 fi fc):=
 yY (yX S1 (yX S2 (EJ S3))) λE U H h_=>by
  refine f7 h_ λY o B H0 V0 Z e r q=>?_;unfold vQ at e
  cases ei:fi Y with
  |none=>rw[ei]at e;cases e
  |some ds=>
  rw[ei]at e;dsimp only at e
  cases ec:fc Y with
  |none=>rw[ec]at e;cases e
  |some ps=>
  rw[ec]at e;dsimp only at e
  cases ep:tJ ps with
  |none=>rw[ep]at e;cases e
  |some qs=>
  rw[ep]at e;dsimp only at e;by_cases hok:EZ ir i1 i2 Y ds.length qs=true
  .rw[y6 hok]at e;cases e;have hps:=QT ep;unfold EZ at hok;simp only[B8,decide_eq_true_eq,Fg]at hok;obtain⟨⟨⟨⟨⟨⟨⟨⟨k1,k2⟩,k3⟩,k4⟩,k5⟩,k6⟩,k7⟩,k8⟩,k9⟩:=hok
   have hir:Y[ir]?=some none:=by
    cases hq:Y[ir]? with
    |none=>rw[hq]at k1;cases k1
    |some x=>
     cases x with
     |none=>rfl
     |some c=>rw[hq]at k1;cases k1
   have hlr:ir<Y.length:=(B0.mp hir).1;refine⟨Y,ds,B,H0,V0,Z,ei,r,λJ H1 s1 wk l bn=>?_⟩
   refine⟨λi m U' H' af=>m=ds.length-i/\i<=ds.length/\∃bs:List As,af=bs.map V.ref/\bs.length=i/\H' l=some (.lst af)/\(∀b∈bs,H1 b=none/\b≠l/\H' b=some (.lst []))/\bs.Nodup/\J4 H1 H',
    ⟨_,rfl,Bh _,[],rfl,rfl,w6,(λb hb=>by cases hb),El,u9 bn⟩,?_⟩
   rintro i m U' H' af ⟨rfl,bL,bs,rfl,hbl,hHl,eP,aB,hS⟩;by_cases ak:i<ds.length
   .refine .inr ⟨wk.go H' (v4.trans hS) i ak,by rw[A3,hbl,Bk];omega,λx H3 hy=>?_⟩
    obtain⟨sH,_⟩:=wk.yld H' (v4.trans hS) i x H3 hy;unfold sN;right;rw[y6 rfl];refine⟨Bh _,λb hb=>?_⟩
    have nl:b≠l:=λz=>by rw[z,sH _ _ hHl]at hb;cases hb
    have nb:b∉bs:=λz=>by rw[sH _ _ (eP b z).2.2]at hb;cases hb
    have h1b:H1 b=none:=hS.free (sH.free hb);refine⟨by rw[j3 (Cz nl)];exact sH _ _ hHl,ds.length-(i+1),⋯,rfl,ak,bs++[b],by rw[B9];rfl,by rw[Ap,hbl];rfl,w6,λc hc=>?_,?_,?_⟩
    .rcases Az.mp hc with z|z
     .obtain⟨z1,z2,z3⟩:=eP c z;refine⟨z1,z2,?_⟩;have ncb:c≠b:=λw'=>nb (by rw[<-w'];exact z)
      rw[j3 z2,j3 ncb];exact sH _ _ z3
     .rw[Ag.mp z];exact⟨h1b,nl,by rw[j3 nl];exact w6⟩
    .refine Cq.mpr ⟨aB,by simp,λa ha c hc=>?_⟩;rw[Ag.mp hc];exact λz=>nb (z▸ha)
    .exact t7 bn (t7 h1b (hS.trans sH))
   .have ei':bs.length=ds.length:=by omega
    refine .inl ⟨by have:=wk.stop H' (v4.trans hS);rw[show i=ds.length by omega];exact this,?_⟩
    have R1:=r.mono s1;have bF:∀a∈l::bs,H1 a=none:=λa ha=>(Ac.mp ha).elim (λz=>z▸bn) λz=>(eP a z).1;have R2:SR X.K B H0 V0 H' ((l::bs)++Z) (U.set ir (some (.ref l))) Y:=(R1.moreL (l::bs) bF hS λa ha=>(Ac.mp ha).elim (λz=>⟨_,z▸hHl⟩) λz=>⟨_,(eP a z).2.2⟩).skip hir
    have hB:∀a∈l::bs,a∉B/\H0 a=none:=λa ha=>⟨(λz=>by
     obtain⟨u,hu⟩:=R1.zs a (R1.sub a z);rw[bF a ha]at hu
     cases hu),R1.same.free (bF a ha)⟩
    have hlb:l∉bs:=λz=>(eP l z).2.1 rfl;refine⟨Y,ps,B,H0,V0,_,ec,R2,λJ2 H2 s2 wk2=>?_⟩
    refine⟨λi m U' H3=>m=qs.length-i/\i<=qs.length/\U'[ir]?=some (some (.ref l))/\U'.length=Y.length/\H3 l=some (.lst (bs.map V.ref))/\kW H3 bs ((qs.take i).foldl sQ (Bf ds.length []))/\(∀ns∈(qs.take i).foldl sQ (Bf ds.length []),ns.length<=2*i)/\J4 H0 H3/\J4 (K0 (l::bs++Z) H2) (K0 (l::bs++Z) H3)/\(∀z∈l::bs++Z,∃u,H3 z=some u),
     ⟨_,rfl,Bh _,?_,?_,s2 _ _ hHl,?_,?_,R2.same.trans s2,λ_ _ h=>h,λz hz=>let ⟨u,hu⟩:=R2.zs z hz;⟨u,s2 _ _ hu⟩⟩,?_⟩
    .rw[Ck (by rw[R1.len];exact hlr)]
    .rw[D1];exact R1.len
    .rw[L9,<-ei'];exact kW.mono s2 (kW.new bs λb hb=>(eP b hb).2.2)
    .rw[L9];intro ns bP;rw[(List.mem_replicate.mp bP).2];exact Bh _
    rintro i m U3 H3 ⟨rfl,hi3,g1,g2,g3,g4,g5,g6,g7,g8⟩
    have plen:ps.length=qs.length:=by rw[hps,A3]
    have vis:J4 (K0 (l::bs++Z) H2) H3:=g7.trans v4;by_cases eU:i<qs.length
    .refine .inr ⟨wk2.go H3 vis i ⋯,λU' H'=>U'[ir]?=some (some (.ref l))/\U'.length=Y.length/\H' l=some (.lst (bs.map V.ref))/\kW H' bs ((qs.take (i+1)).foldl sQ (Bf ds.length []))/\(∀ns∈(qs.take (i+1)).foldl sQ (Bf ds.length []),ns.length<=2*(i+1))/\J4 H0 H'/\J4 (K0 (l::bs++Z) H2) (K0 (l::bs++Z) H')/\(∀z∈l::bs++Z,∃u,H' z=some u),
      λU' H' hh=>⟨qs.length-(i+1),⋯,rfl,eU,hh⟩,λx H4 hy=>?_⟩
     obtain⟨sH,hx⟩:=wk2.yld H3 vis i x H4 hy;have hqi:qs[i]?=some qs[i]:=A4 eU;have hd:=hx (FJ qs[i]) (by rw[hps,Ao,hqi];rfl) (l::bs++Z) g8 g7
     have hq4:=k4 qs[i] (Bv eU);have htk:qs.take (i+1)=qs.take i++[qs[i]]:=(List.take_append_getElem eU).symm;rw[htk,List.foldl_append];generalize qs[i]=qq at hd hq4;obtain⟨a,b⟩:=qq;dsimp only at hq4;obtain⟨p,xs,rfl,t1,t2⟩:=j5.mp hd;have hxs:xs=[.int (a:Int),.int (b:Int)]:=(Y9 (ns:=[(a:Int),(b:Int)])).mp t2;subst hxs
     have n1:i1<U3.length:=by rw[g2];exact k5
     have n2:i2<U3.length:=by rw[g2];exact k6
     refine⟨p,_,rfl,j9 v4 t1,rfl,_,_,rfl,_,_,rfl,rfl,?_⟩;generalize (qs.take i).foldl sQ (Bf ds.length [])=aI at g4 g5;have hxl:bs.length=aI.length:=g4.len;have g4':=kW.mono sH g4;obtain⟨c1,gu,e1,e2,e3⟩:=g4'.get (j:=a) ⋯;have c1m:c1∈bs:=C6 e1
     have cN:pC aI a b=aI.set a (gu++[(b:Int)]):=by unfold pC;rw[Cv,e2];rfl
     have I2:=kW.upd (ms:=gu++[(b:Int)]) aB g4' e1;rw[<-cN]at I2
     have hsz:∀(m:Nat),m<=2*i+1->m<sizeLine:=λm hm=>by rw[Bk];omega
     have l1:gu.length<=2*i:=g5 gu (C6 e2)
     have gs1:((U3.set i1 (some (.int (a:Int)))).set i2 (some (.int (b:Int))))[ir]?=some (some (.ref l)):=by rw[Bb (Cz k8),Bb (Cz k7)];exact g1
     have gs2:((U3.set i1 (some (.int (a:Int)))).set i2 (some (.int (b:Int))))[i1]?=some (some (.int (a:Int))):=by rw[Bb (Cz k9),Ck n1]
     have gs3:((U3.set i1 (some (.int (a:Int)))).set i2 (some (.int (b:Int))))[i2]?=some (some (.int (b:Int))):=by rw[Ck (by rw[D1];exact n2)]
     have lc1:l≠c1:=λz=>hlb (z▸c1m);refine⟨l,bs,a,c1,gu.map V.int,.int (b:Int),gs1,gs2,gs3,sH _ _ g3,e1,e3,hsz _ (by rw[A3];omega),?_⟩
     have m1:gu.map V.int++[V.int (b:Int)]=(gu++[(b:Int)]).map V.int:=by rw[B9];rfl
     rw[m1];obtain⟨c2,gc,f1,f2,f3⟩:=I2.get (j:=b) ⋯;have c2m:c2∈bs:=C6 f1;have lc2:l≠c2:=λz=>hlb (z▸c2m)
     have fY:pC (pC aI a b) b a=(pC aI a b).set b (gc++[(a:Int)]):=by show (pC aI a b).set b ((pC aI a b).getD b []++[(a:Int)])=_;rw[Cv,f2];rfl
     have I3:=kW.upd (ms:=gc++[(a:Int)]) aB I2 f1;rw[<-fY]at I3;have l2:gc.length<=2*i+1:=GV g5 gc (C6 f2);refine⟨l,bs,b,c2,gc.map V.int,.int (a:Int),gs1,gs3,gs2,by rw[j3 lc1];exact sH _ _ g3,f1,f3,hsz _ (by rw[A3];exact l2),?_⟩
     have m2:gc.map V.int++[V.int (a:Int)]=(gc++[(a:Int)]).map V.int:=by rw[B9];rfl
     rw[m2];have iu:∀c∈bs,c∈l::bs++Z:=λc hc=>Bn _ (A7 _ hc);refine⟨gs1,by rw[D1,D1];exact g2,by rw[j3 lc2,j3 lc1];exact sH _ _ g3,I3,λns bP=>?_,t7 (hB c2 (A7 _ c2m)).2 (t7 (hB c1 (A7 _ c1m)).2 (g6.trans sH)),(g7.trans (x9 sH)).trans ((qY (iu c1 c1m)).trans (qY (iu c2 c2m))),λz hz=>?_⟩
     .have:=GV (m:=2*i+1) (GV g5) ns bP
      omega
     .by_cases q2:z=c2
      .exact⟨_,by rw[q2];exact w6⟩
      .rw[j3 q2];by_cases q1:z=c1
       .exact⟨_,by rw[q1];exact w6⟩
       .rw[j3 q1];obtain⟨u,hu⟩:=g8 z hz;exact⟨u,sH _ _ hu⟩
    .have eq':i=qs.length:=by omega
     subst eq';refine .inl ⟨by have:=wk2.stop H3 vis;rw[plen]at this;exact this,.ref l,g1,?_⟩
     rw[Jw]at g4;refine q (.ref l) H3 g6 (K6.mpr ⟨l,bs.map V.ref,rfl,i7.of ?_,kW.rep (λb hb=>(hB b (A7 _ hb)).1) g4⟩);rw[K8 (hB l A6).1];exact g3
  .rw[y8 hok]at e;cases e
end
section
variable{X:Cx}
def ϳ{i:Nat}{y:Ba}{py aZ pos:Hi}(N:List Ba)(cap:List (Option Nat))(hc:X.calm=true)(hi:PI X ae ag wi)(hg:∀cl C fp s H,PG (Y6 X N scope cl C fp s H) ae g)(ht:∀cl C fp s H,sP (Y6 X N scope cl C fp s H) bc tt)(he:∀cl C fp s H,PE (Y6 X N scope cl C fp s H) ba te)(hN:X.N.Nodup)(eu:X.N[i]?=some y)(hy:m9 X.env.scope y)(hf:X.fn y=true\/X.env.scope.names.lookup y=some .local)(ca:Er (.ListComp ba [⟨ae,ag,bc,0⟩] scope pos) (some (.Name y py)) aZ.line X.env=Ci true)(hok:rY scope X.env.scope N cap X.N=true)(hs:∀x,Cu ag X.env x=Ci x):
  PS X (.Assign [.Name y py] (.ListComp ba [⟨ae,ag,bc,0⟩] scope pos) aZ) (AY (xZ cap wi g tt te) (sN i)):=by
 have c:=AQ hok;exact RO (N:=N) (cap:=cap) (wi:=wi) (g:=g) (tt:=tt) (te:=te) hc hi hg ht he c.kind c.cell c.loc c.fre c.out c.sel c.len hN eu hy hf ca hs
def Zf{y t x1 x2:Ba}{ir i1 i2 kt:Nat}{py aZ pos lp tp q1 q2 qt fpos rpos rp a0 a1 a2 a3 a4 a5 a6 b0 b1 b2 b3 b4 b5 b6:Hi}(hc:X.calm=true)(hp:N4 (Aw X.prog X.w) X.A X.env X.xe)(hi:ZI X (.Name t tp) ag fi)(df:ZI X (.Tuple [.Name x1 q1,.Name x2 q2] kt qt) iter2 fc)(hN:X.N.Nodup)(eu:X.N[ir]?=some y:=by rfl)(bA:X.N[i1]?=some x1:=by rfl)(hi2':X.N[i2]?=some x2:=by rfl)(hy:m9 X.env.scope y:=by first|exact E7 rfl|exact D3 rfl)(h1:m9 X.env.scope x1:=by first|exact E7 rfl|exact D3 rfl)(h2:m9 X.env.scope x2:=by first|exact E7 rfl|exact D3 rfl)(hfy:X.fn y=true\/X.env.scope.names.lookup y=some .local:=by first|exact .inl rfl|exact .inr rfl)(hf1:X.fn x1=true\/X.env.scope.names.lookup x1=some .local:=by first|exact .inl rfl|exact .inr rfl)(hf2:X.fn x2=true\/X.env.scope.names.lookup x2=some .local:=by first|exact .inl rfl|exact .inr rfl)(hdy:(y==("__debug__":Ba))=false:=by decide)(hcy:(y==("__classdict__":Ba))=false:=by decide)(hd1:(x1==("__debug__":Ba))=false:=by decide)(hc1:(x1==("__classdict__":Ba))=false:=by decide)(bw:(x2==("__debug__":Ba))=false:=by decide)(aY:(x2==("__classdict__":Ba))=false:=by decide)(hok:rY scope X.env.scope [t] [none] X.N=true:=by rfl)(iL:scope.names.lookup t=some .local:=by rfl)(jp:∀cl C fp s H,m9 (Y6 X [t] scope cl C fp s H).env.scope t:=by intros;exact E7 rfl)(ca:Er (.ListComp (.List [] lp) [⟨.Name t tp,ag,[],0⟩] scope pos) (some (.Name y py)) aZ.line X.env=Ci true:=by rfl)(hs:∀x,Cu ag X.env x=Ci x:=by intro _;rfl)(bE:∀x,Cu iter2 X.env x=Ci x:=by intro _;rfl)(hn:(E6 [.Name x1 q1,.Name x2 q2] X.env).length=2:=by rfl)(cn:(E6 [.Name x1 q1,.Name x2 q2] X.env).findIdx? (·.1)=none:=by rfl)(he1:(E6 [.Name x1 q1,.Name x2 q2] X.env).map (·.2)=Lw (.Name x1 q1) X.env::(E6 [.Name x2 q2] X.env).map (·.2):=by rfl)(cP:(E6 [.Name x2 q2] X.env).map (·.2)=Lw (.Name x2 q2) X.env::(E6 [] X.env).map (·.2):=by rfl)(A1:PS X (.Expr (.Call (.Attribute (.Subscript (.Name y a0) (.Name x1 a1) a2) "append" a3) [.Name x2 a4] [] a5) a6) (AW ir i1 i2))(A2:PS X (.Expr (.Call (.Attribute (.Subscript (.Name y b0) (.Name x2 b1) b2) "append" b3) [.Name x1 b4] [] b5) b6) (AW ir i2 i1)):ZB X [.Assign [.Name y py] (.ListComp (.List [] lp) [⟨.Name t tp,ag,[],0⟩] scope pos) aZ,
   .For (.Tuple [.Name x1 q1,.Name x2 q2] kt qt) iter2 [.Expr (.Call (.Attribute (.Subscript (.Name y a0) (.Name x1 a1) a2) "append" a3) [.Name x2 a4] [] a5) a6,.Expr (.Call (.Attribute (.Subscript (.Name y b0) (.Name x2 b1) b2) "append" b3) [.Name x1 b4] [] b5) b6] [] fpos,
   .Return (some (.Name y rp)) rpos] (vQ ir i1 i2 fi fc):=by
 have hi:=hi.h;have df:=df.h;refine⟨?_⟩;have vy:mS X.env.scope y:=hy.elim .inl λz=>.inr (.inl z);refine ð ?_ ?_ (FA (nW eu vy hdy hcy))
 .exact ϳ [t] [none] hc hi (λcl C fp s H=>EI (by simp) rfl (jp cl C fp s H) (.inl (by show (match scope.names.lookup t with|some .local=>true|some .cell=>true|_=>false)=true;rw[iL]))) (λcl C fp s H=>JI) (λcl C fp s H=>Uw Y5) hN eu hy hfy ca hok hs
 .exact Uy hp hc df (Ux hc (JH (EI hN bA h1 hf1) (JH (EI hN hi2' h2 hf2) RL cP) he1) hn cn) (yX A1 (EJ A2)) bE
end
end L3
namespace HT
open PySem PyProof.Rows
section
variable{prog:Bs}{w:Ce}{A:Bz}{E:VP}{s:Ae}
def Ĉ(n:Nat):Dp ((n:Int)-1) (-1) (-1)=n:=by
 unfold Dp
 have h1:¬(-1:Int)>0:=by omega
 simp only[h1,if_false,Int.neg_neg,Int.ediv_one]
 split<;>omega
def ĭ{n:Nat}{Q:Int×Int×Nat->Ae->Prop}(hs:s.heap.IsSliceOf sl .none .none vk)(pk:L1 vk (some (-1)))(h:Q ((n:Int)-1,-1,n) s):
  Ah (Aw prog w) A (Fj (.ref sl) (Ci (n:Int))) Q E s:=by
 obtain⟨os,cV,dv,cS⟩:=id hs;unfold Fj C1.Slice.sliceFields;refine A0 (A0 (Dt cV cS (x:=.none) rfl (A0 (Dt cV cS (x:=.none) rfl (A0 (Dt cV cS (x:=vk) rfl (x6 ?_)))))));refine A0 (zI pk ?_);show Ah _ _ (if ((-1:Int)==0)=true then _ else _) _ _ s;rw[y8 ∅];refine A0 (zI .none (A0 (zI .none (A0 (x6 ?_)))))
 show Ah _ _ (Ci ((n:Int)-1,(-1:Int),Dp ((n:Int)-1) (-1) (-1))) _ _ s;rw[Ĉ];exact x6 h
def ϱ(xs:Array A9):((Aa xs.size).filterMap λ(m:Nat)=>xs[(((xs.size:Int)-1)+(m:Int)*(-1)).toNat]?).toArray=xs.toList.reverse.toArray:=by
 have e:(λ(m:Nat)=>xs[(((xs.size:Int)-1)+(m:Int)*(-1)).toNat]?)=((λx=>xs[x]?)∘λm=>xs.size-1-m):=by
  funext m
  have:(((xs.size:Int)-1)+(m:Int)*(-1)).toNat=xs.size-1-m:=by omega
  show xs[_]?=xs[_]?;rw[this]
 rw[e,<-List.filterMap_map,PySem.W.krv_range,List.filterMap_reverse,PySem.W.krv_all]
def getItem_tuple_rev{Q:VP}(ht:Jo s.heap t items)(hs:s.heap.IsSliceOf sl .none .none vk)(pk:L1 vk (some (-1)))(h:Q (.ref s.heap.objs.size) { s with heap:=s.heap.push { cls:=.type "tuple",data:=.seq items.toList.reverse.toArray } })(hsz:items.size<=sizeLine):Ah (Aw prog w) A (Ja (.ref t) (.ref sl)) Q E s:=by
 have hk:sizeOk (.seq items.toList.reverse.toArray):=by show items.toList.reverse.toArray.size<=sizeLine;simpa using hsz
 obtain⟨os,cV,dv,cS⟩:=id hs;have iA:s.TypeIs (.ref sl) "slice":=⟨os,cV,dv⟩;unfold Ja
 try with_reducible refine Ca ?_
 first|refine A0 (x6 ?_)|skip
 refine A0 (Lh ht.typeIs ∅ ?_)
 refine A0 (Cy (name:=Bl "__getitem__") ht.typeIs C3
  (Ct C3 ht.typeIs Kq ?_ (L4 _ _)))
 show Ah _ _ (Hl (.ref t) >>= _) _ _ s;refine A0 (Ni ht ?_);refine A0 (F9 iA ?_);rw[y6 ∅];refine A0 (ĭ hs pk ?_)
 have cp:¬((((items.size:Int)-1)==0&&(-1:Int)==1&&items.size==items.size)=true):=by intro q;rw[B8,B8]at q;exact u3 (eq_of_beq q.1.2) ∅
 show Ah _ _ (if (((items.size:Int)-1)==0&&(-1:Int)==1&&items.size==items.size)=true then _ else _) _ _ s;rw[y8 cp,ϱ]
 first
  |exact A0 (m:=Cz0 _) (Bc (x6 ⟨_,rfl,x6 h⟩) hk)
  |exact A0 (m:=Cz0 _) (Bc (A0 (x6 (x6 ⟨_,rfl,x6 h⟩))) hk)
  |exact A0 (A0 (m:=Cz0 _) (Bc (x6 (x6 ⟨_,rfl,x6 h⟩)) hk))
  |exact A0 (A0 (m:=Cz0 _) (Bc (x6 ⟨_,rfl,x6 h⟩) hk))
end
end HT
namespace L3
open PySem PySem.Spec PyProof.Rows L2
theorem JQ:∀{xs:List V} {us:List A9},Y4 xs us->Y4 xs.reverse us.reverse
 |_,_,.nil=>.nil
 |_,_,.cons (a:=a) (b:=b) r t=>by rw[Jn,Jn];exact(JQ t).append (.cons r .nil)
theorem JM{K:A5}{H:Hp}:∀{ds:List D} {xs:List V},J3 K H ds xs->J3 K H ds.reverse xs.reverse
 | [],_,h=>by rw[J9]at h;subst h;exact J3.nil
 |d::ds,_,h=>by obtain⟨v,vs,rfl,h2,h3⟩:=j7.mp h;rw[Jn,Jn];exact(JM h3).append (J3.one h2)
section
variable{X:Cx}{e k:Expr}{pos p2:Hi}
def MV(fa fk:ED):ED:=λY=>match fa Y with
 |some (.tup ds)=>(match fk Y with|some (.int i)=>if i = -1 then some (.tup ds.reverse) else none|_=>none)
 |_=>none
def ň(he:PE X e te)(hk:PE X k tk):PE X (.Subscript e (.Slice none none (some k) p2) pos)
  (λU H Q=>te U H λx H1=>tk U H1 λy H2=>y = .int (-1)/\∃a xs,x = .ref a/\i8 X.K H2 a xs/\∀p,H2 p=none->Q (.ref p) (upd H2 p (.tup xs.reverse))):=by
 intro aa s U H Q I h;refine Nr (jK (he aa s U H _ I h) λv s1 x H1 I1 r1 q1=>?_);refine wpAny_Slice ?_;rw[Nj];refine x6 ?_;refine x6 ?_;rw[evalPart_some];refine jK (hk aa s1 U H1 _ I1 q1) λvk s3 y H3 I3 r3 ⟨hy,a,xs,hx,sq,q⟩=>?_;subst hy hx;obtain⟨t,rfl⟩:=r3;cases r1;have I4:a9 X aa U H3 { s3 with heap:=s3.heap.push { cls:=.type "slice",data:=.fields #[.none,.none,.int (-1) t] } }:=I3.kept (t':=s3.toks) λb ob q=>A8 _ q
 obtain⟨its,r,ht,hz⟩:=I4.tuple sq;have hv:=Y4.length r;show Ah (Aw X.prog X.w) X.A (Ly e (.Slice none none (some k) p2) (.ref a) (.ref s3.heap.objs.size)) (EP X aa U Q) X.xe { s3 with heap:=s3.heap.push { cls:=.type "slice",data:=.fields #[.none,.none,.int (-1) t] } };refine tail_any (T:="tuple") (ops:=[.ref a,.ref s3.heap.objs.size]) ht.typeIs C3.lookup ?_ (by with_unfolding_all rfl)
 refine HT.getItem_tuple_rev ht (Ch.IsSliceOf.new ..) (.int _ _) ?_ (by rw[Af,<-hv];exact hz)
 refine⟨.ref _,_,I4.laid (t':=s3.toks) (o:=.tup xs.reverse) (λb ob q=>A8 _ q) (Ad _) ?_,rfl,q _ (I4.hok.fresh (Ad _))⟩;exact⟨by rw[Gb];exact hz,_,JQ r,o5.new _ _⟩
def õ(ha:ZE X e fa)(hk:ZE X k fk):ZE X (.Subscript e (.Slice none none (some k) p2) pos) (MV fa fk):=
 ⟨have ha:=ha.h;
 have hk:=hk.h;
 j6 (ň ha hk) λU H Q h_=>by
  refine f7 h_ λY d B H0 V0 Z e r q=>?_;unfold MV at e;split at e
  .rename_i ds ed;split at e
   .rename_i i ei;split at e
    .rename_i hi;cases e;refine⟨Y,_,B,H0,V0,Z,ed,r,λv H1 s1 r1=>⟨Y,_,B,H0,V0,Z,ei,r.mono s1,λu H2 s2 r2=>?_⟩⟩;rw[v7]at r2;subst r2 hi;obtain⟨a,xs,rfl,h1,h2⟩:=j5.mp (r1.mono (x9 s2));refine⟨rfl,a,xs,rfl,j9 v4 h1,λp hp=>?_⟩;have sn:=u9 (o:=HO.tup xs.reverse) hp;refine q _ _ (s1.trans (s2.trans sn)) (j5.mpr ⟨p,xs.reverse,rfl,i8.of ?_,JM (h2.mono (x9 sn))⟩);rw[K8 (((r.mono s1).mono s2).newer hp)]
     exact w6
    .cases e
   .cases e
  .cases e⟩
end
abbrev KD:=List d4×List D
def v3A(K:A5)(k:J5->Option KD):TS:=λE U H=>∃Y kd B H0 V0 Z,k Y=some kd/\SR K B H0 V0 H Z U Y/\∀a kvs H',J4 H0 H'->H0 a=none->H' a=some (.dK kvs)->kvs.map (·.1)=kd.1->J3 K (K0 (a::B) H') kd.2 (kvs.map (·.2))->E.rt (.ref a) H'
structure GD(X:Cx)(b:List Dl)(k:J5->Option KD):Prop where
 h:nI X b (v3A X.K k)
def LS(i:Nat):J5->Option KD:=λY=>match Y[i]? with|some (some (.od ks vs))=>some (ks,vs)|_=>none
def FF(g:EO)(k:J5->Option KD):J5->Option KD:=λY=>match g Y with|some (.nx Y')=>k Y'|_=>none
section
variable{X:Cx}
def ù(i:Nat){x:Ba}(hN:X.N[i]?=some x:=by rfl)(hv:mS X.env.scope x:=by first|exact E7 rfl|exact D3 (E7 rfl)|exact D3 (D3 rfl))(hd:(x==("__debug__":Ba))=false:=by decide)(aO:(x==("__classdict__":Ba))=false:=by decide):GD X [.Return (some (.Name x p)) pos] (LS i):=
 ⟨yY (EJ (FA (pv i hN hv hd aO))) λE U H h_=>by
  refine f7 h_ λY kd B H0 V0 Z e r q=>?_;unfold LS at e;split at e
  .rename_i ks vs hρ;cases e;obtain⟨a,kvs,h1,h2,h3,h4,h5,h6,h7⟩:=r.od i ks vs hρ;exact⟨_,h1,q a kvs H r.same h4 h5 h6 (h7.mono (qD λb hb=>(Ac.mp hb).elim (λz=>z▸h2) (r.sub b)))⟩
  .cases e⟩
def Tv{st:Dl}{rest:List Dl}{g:EO}{k:J5->Option KD}(h1:SS X st g)(h2:GD X rest k):GD X (st::rest) (FF g k):=
 ⟨yY (yX h1 h2.h) λE U H h_=>by
  refine f7 h_ λY kd B H0 V0 Z e r q=>?_;unfold FF at e;split at e
  .rename_i Y' eg;exact⟨Y,_,B,H0,V0,Z,eg,r,λU' H' Z' r'=>⟨Y',kd,B,H0,V0,Z',e,r',q⟩⟩
  .cases e⟩
def Vr(K:A5)(F:List D->Option KD):Sp:=λvs H Q _=>∃Z ds kd,(TB K H/\∀z∈Z,∃o,H z=some o)/\J3 K (K0 Z H) ds vs/\F ds=some kd/\∀a kvs H',J4 H H'->H a=none->H' a=some (.dK kvs)->kvs.map (·.1)=kd.1->J3 K (K0 (a::Z) H') kd.2 (kvs.map (·.2))->Q (.ref a) H'
def FQ(n:Nat)(N:List Ba)(k:J5->Option KD):List D->Option KD:=λds=>if ds.length=n then k (oJ N ds) else none
structure NQ(P:Bs)(w:Ce)(K:A5)(mg:Ba->Option A9)(base:Ch)(k:Nat)(x:Ba)(ps:List Ba)(F:List D->Option KD):Prop where
 ex:∃f fd,kD P w K mg base mG k f fd ps (Vr K F)/\mg x=some (.ref f)/\Fh K (.ref f)=true/\uB K fd ps []
def v12{P:Bs}{w:Ce}{K:A5}{mg:Ba->Option A9}{base:Ch}{x:Ba}{st:Dl}{N ps:List Ba}{k n:Nat}{g:J5->Option KD}(G:b8 K mg x st)(S:jD N ps (u5 st))(hb:∀(kV az pm:A9) (an:Option As) (ah ct:A9) (us:List A9),us.length=ps.length->Gu (E3 x x (pQ st) (l9 st) (u5 st) .none kV az pm an ah ct) ⟨us,[]⟩=Ci (ps.zip us))(hn:ps.length=n)
  (ap:∀(f:As) (ah:A9) (A:Bz) (outer:List O7) (s:Ae) (H:Hp) (E:XK),d8 k (A.deeper (Jr x (u5 st) s.heap.objs.size f ah)) ->
   GD (oQ mG P w K mg base N x (u5 st) f ah A outer s H E).nox (l9 st) g):NQ P w K mg base (k+1) x ps (FQ n N g):=by
 obtain⟨f,fd,G1,G2⟩:=G.ex;refine⟨f,fd,G1.ok S (λvs H Q E h=>?_) λah A outer s H vs Q E hr h=>?_,G2,G1.kp,G1.binds hb⟩
 .obtain⟨Z,ds,d,zs,rr,e,q⟩:=h;unfold FQ at e;split at e
  .rename_i hl;rw[<-rr.length,hl,hn]
  .cases e
 .obtain⟨Z,ds,d,zs,rr,e,q⟩:=h;unfold FQ at e;split at e
  .exact⟨_,(ap f ah A outer s H E hr).h,oJ N ds,d,Z,H,K0 Z H,Z,e,JN zs rr,q⟩
  .cases e
def KL(F:List D->Option KD)(g:EL):J5->Option KD:=λY=>match g Y with|some ds=>F ds|none=>none
def ø{e:Expr}{es:List Expr}(G:NQ X.prog X.w X.K X.mg X.base j x ps F)(hr:d8 k X.A)(ha:ZA X (e::es) g)(hjk:j<=k:=by decide)(hg:Gl X x:=by rfl)(bG:(x==("__debug__":Ba))=false:=by decide)(he:J0 e=true:=by rfl)(au:es.all J0=true:=by rfl):BJ X (.Call (.Name x p) (e::es) [] pos) (KL F g):=by
 have ha:=ha.h;refine⟨?_⟩;obtain⟨f,fd,h1,h2,h3,h4⟩:=G.ex
 exact j6 (RH h1 (hr.mono hjk) hg h2 h3 h4 .nil TJ ha bG (w9 he) (K7 au)) λU H Q h_=>by
  refine f7 h_ λY d B H0 V0 Z e r q=>?_;unfold KL at e;split at e
  .rename_i ds aF;refine⟨Y,ds,B,H0,V0,Z,aF,r,λvs H1 s1 r1=>?_⟩;show Vr X.K F (vs++[]) H1 Q E0;rw[Cr];exact⟨Z,ds,d,⟨(r.mono s1).tb,(r.mono s1).zs⟩,r1,e,λa kvs H' s hn ha hk rr=>q a kvs H' (s1.trans s) (s1.free hn) ha hk rr⟩
  .cases e
end
end L3
namespace L3
open PySem PySem.Spec PyProof.Rows L2 PySem.SeqAt
section
variable{prog:Bs}{w:Ce}{A:Bz}{E:VP}{s:Ae}
def Qz{P:List A9->Ch->Prop}{Q:VP}(hT:s.TypeIs (.ref I) T)(am:(C4 T==C4 "tuple")=false)(eQ:∀{E':VP} {Q':List A9->Ae->Prop},(∀us h' tk,P us h'->Q' us { s with heap:=h',toks:=tk })->Ah (Aw prog w) A.in1.in1 (Jz (.ref I)) Q' E' s)(hQ:∀us h' tk,P us h'->us.length<=sizeLine/\Q (.ref h'.objs.size) { s with heap:=h'.push { cls:=.type "tuple",data:=.seq us.toArray },toks:=tk }):
  Ah (Aw prog w) A (call (.type "tuple") [.ref I]) Q E s:=by
 refine callType_codes (Q₁:=λobj s₁=>s₁.TypeIs obj "tuple"/\Q obj s₁) F.called_tuple (F.typeCall_tuple_1 _) F.entry_object_init ?_ λobj s₁ h₁=>⟨h₁.1,F.args_object_init_2 obj _,object_init_meets F.called_tuple.init.lookup F.called_tuple.made ∅ prog w A.in1 _ s₁ ⟨h₁.1,rfl,h₁.2⟩⟩;refine Kl ?_;show Ah _ A.in1.in1 (do Mg "tuple.__new__" ⟨[.type "tuple",.ref I],[]⟩;Mx (.builtin "tuple.__new__" ⟨[.type "tuple",.ref I],[]⟩)) _ _ s
 refine A0 (Cn (F.newCall_tuple_1 _) (x6 ⟨plainId_quiet F.plain_tuple_new _,codeAny_builtin F.entry_tuple_new ?_⟩));rw[Br F.plain_tuple_new _];have bU:=sub_tuple_self;have hinit:=init_tuple_lookup;have hmh:=madeHere_tuple
 wp_walk using F9 hT,eQ
 intro us h' tk hp;obtain⟨hz,q⟩:=hQ us h' tk hp;show Ah _ _ (Cz0 us.toArray >>= λv=>ret v) _ _ _;unfold Cz0;refine A0 (Bc ?_ (by show us.toArray.size<=sizeLine;simpa using hz))
 exact x6 ⟨⟨_,Ak _ rfl,rfl⟩,q⟩
end
section
variable{X:Cx}{p p2 pos aU:Hi}{a:Expr}{fa:ED}
def Ý:List V->Hp->VK->Prop:=λxs H Q=>∃p,∃j:Int,xs=[.ref p]/\H p=some (.rng 0 j)/\-(2 ^ 62)<=j/\j<=100000/\∀l,H l=none->Q (.ref l) (upd H l (.tup ((kB 0 j.toNat).map V.int)))
def Wm(hc:X.calm=true):lC X (.type "tuple") Ý:=by
 intro aa s U H xs us Q I r h;obtain⟨p,j,rfl,hp,h1,h2,q⟩:=h;obtain⟨u,rfl,ru⟩:=l7 r;cases ru;obtain⟨t,u,v,ho⟩:=(show kX X.prog X.w H s.heap p (.rng 0 j) from I.hok p _ hp);refine Qz (T:="range") (P:=λus h'=>Y4 ((kB 0 j.toNat).map V.int) us/\∀b o,s.heap.get? b=some o->h'.get? b=some o) ⟨_,ho,rfl⟩ ∅ (λ{E' Q'} q'=>QF (A:=X.A.in1.in1) (I.ok.hd hc) ho h1 h2 λits h' tk rv k _=>q' its h' tk ⟨rv,k⟩) λits h' tk ⟨rv,k⟩=>?_
 have hl:((kB 0 j.toNat).map V.int).length<=sizeLine:=by unfold kB;rw[A3,A3,At,Bk];omega
 refine⟨by rw[<-rv.length];exact hl,?_⟩
 have I1:a9 X aa U H { s with heap:=h',toks:=tk }:=I.kept k;exact⟨.ref h'.objs.size,_,I1.laid (t':=tk) (λb o e=>A8 _ e) (Ad _) (show kX X.prog X.w _ _ _ (.tup ((kB 0 j.toNat).map V.int)) from ⟨hl,its,rv,o5.new _ _⟩),rfl,q _ (I1.hok.fresh (Ad _))⟩
def LJ(f:ED):ED:=λY=>match f Y with|some (.int j)=>if -(2 ^ 62)<=j/\j<=100000 then some (.tup ((kB 0 j.toNat).map D.int)) else none|_=>none
def ġ(hc:X.calm=true)(hm:X.mg "tuple" = none)(cg:X.mg "range" = none)(h:ZE X a fa)(hg:Gl X "tuple":=by rfl)(eV:Gl X "range":=by rfl)(he:J0 a=true:=by rfl): ZE X (.Call (.Name "tuple" p) [.Call (.Name "range" p2) [a] [] aU] [] pos) (LJ fa):=
 ⟨have h:=h.h;
 j6 (oN (Wm hc) hg hm ‹_› (J7 (oN HB eV cg ‹_› (J7 h Y5 (w9 he)) ∅ ∅ (w9 he) (K7 rfl)) Y5 (w9 rfl)) ∅ ∅ (w9 rfl) (K7 rfl)) λU H Q h_=>by
  refine f7 h_ λY d B H0 V0 Z e r q=>?_;unfold LJ at e;split at e
  .rename_i j ej;split at e
   .rename_i hj;cases e;refine⟨Y,_,B,H0,V0,Z,ej,r,λv H' s rr=>?_⟩
    obtain rfl:=v7.mp rr
    refine⟨j,rfl,λp1 cN=>⟨p1,j,rfl,w6,hj.1,hj.2,λl hl=>?_⟩⟩;have s1:=u9 (o:=HO.rng 0 j) cN;have s2:=u9 (o:=HO.tup ((kB 0 j.toNat).map V.int)) hl;refine q _ _ (s.trans (s1.trans s2)) (j5.mpr ⟨l,_,rfl,i8.of ?_,Y9.mpr rfl⟩);rw[K8 ((r.mono (s.trans s1)).newer hl)];exact w6
   .cases e
  .cases e⟩
end
def WJ:Slot "reversed" "__init__" "object.__init__" :=.of (owner:="object") (n:="__init__") (by rw[Et,Da];kernel_rfl) ‹_› ‹_› ‹_› (by first|exact .inl ‹_›|exact .inr ‹_›) (by rw[Eo];kernel_rfl)
def zN:Slot "reversed" "__next__" "reversed.__next__" :=.of (owner:="reversed") (n:="__next__") (by rw[Et,Da];kernel_rfl) ‹_› ‹_› ‹_› (by first|exact .inl ‹_›|exact .inr ‹_›) (by rw[Eo];kernel_rfl)
def OB:Slot "reversed" "__iter__" "reversed.__iter__" :=.of (owner:="reversed") (n:="__iter__") (by rw[Et,Da];kernel_rfl) ‹_› ‹_› ‹_› (by first|exact .inl ‹_›|exact .inr ‹_›) (by rw[Eo];kernel_rfl)
def HK:Slot "reversed" "__length_hint__" "reversed.__length_hint__" :=.of (owner:="reversed") (n:="__length_hint__") (by rw[Et,Da];kernel_rfl) ‹_› ‹_› ‹_› (by first|exact .inl ‹_›|exact .inr ‹_›) (by rw[Eo];kernel_rfl)
def OH:L7 O9 "reversed.__next__" = some C1.«reversed.__next__»:=Mh (by kernel_rfl)
def WZ:L7 O9 "reversed.__length_hint__" = some C1.«reversed.__length_hint__»:=Mh (by kernel_rfl)
def Xa:L7 O9 "reversed.__iter__" = some C1.«dict_keyiterator.__iter__»:=N1 (id':="dict_keyiterator.__iter__") (by kernel_rfl) rfl ‹_› (by kernel_rfl)
def NX(a:A9):Ia "reversed.__next__" ⟨[a],[]⟩:=by unfold Ia;kernel_rfl
def Wk(a:A9):Ia "reversed.__iter__" ⟨[a],[]⟩:=by unfold Ia;kernel_rfl
def Wj(a:A9):Ia "reversed.__length_hint__" ⟨[a],[]⟩:=by unfold Ia;kernel_rfl
def JV:TypeCalled "reversed" "reversed.__new__" "object.__init__" :=
 ⟨‹_›,‹_›,⟨_,_,F.mro_reversed⟩,F.made_reversed,‹_›,by rw[Eo];kernel_rfl,WJ⟩
def YW:L5 (.type "tuple") "__reversed__" = Ci none:=by rw[Et,Da];kernel_rfl
def Β:L5 (.type "reversed") "__len__" = Ci none:=by rw[Et,Da];kernel_rfl
def WL:Nd (.type "tuple") (.type "dict")=Ci false:=by rw[Eo];kernel_rfl
section
variable{prog:Bs}{w:Ce}{A:Bz}{E:VP}{s:Ae}
abbrev rK(t:As)(i:Int):Ka:={ cls:=.type "reversed",data:=.fields #[.ref t,rawInt i] }
def Ŷ{Q:VP}(ht:Jo s.heap t items)(hz:items.size<=sizeLine)(h:∀tk,Q (.ref s.heap.objs.size) { s with heap:=s.heap.push (rK t ((items.size:Int)-1)),toks:=tk }):Ah (Aw prog w) A (call (.type "reversed") [.ref t]) Q E s:=by
 have hT:s.TypeIs (.ref t) "tuple":=by obtain⟨o,ho,hc,_⟩:=ht;exact⟨o,ho,hc⟩
 refine callType_codes (Q₁:=λobj s₁=>s₁.TypeIs obj "reversed"/\Q obj s₁) JV (F.typeCall_reversed_1 _) F.entry_object_init ?_ λobj s₁ h₁=>⟨h₁.1,F.args_object_init_2 obj _,object_init_meets JV.init.lookup JV.made ∅ prog w A.in1 _ s₁ ⟨h₁.1,rfl,h₁.2⟩⟩;refine Kl ?_;show Ah _ A.in1.in1 (do Mg "reversed.__new__" ⟨[.type "reversed",.ref t],[]⟩;Mx (.builtin "reversed.__new__" ⟨[.type "reversed",.ref t],[]⟩)) _ _ s
 refine A0 (Cn (F.newCall_reversed_1 _) (x6 ⟨plainId_quiet F.plain_reversed_new _,codeAny_builtin F.entry_reversed_new ?_⟩));rw[Br F.plain_reversed_new _];unfold C1.«reversed.__new__»;refine A0 (Cn (newClass_reversed _) ?_)
 try right
 refine A0 (Cn (a:=()) (by first|rfl|kernel_rfl) ?_);refine A0 (Cn (a:=()) (by first|rfl|kernel_rfl) ?_)
 try right
 refine A0 (F5 hT YW ?_)
 try right
 refine A0 ?_;refine A0 (Hx hT WL ?_);rw[y8 Ay];refine A0 (F5 hT F.slot_tuple_getitem.lookup ?_)
 try right
 rw[y6 ∅];refine x6 ?_;simp only[Fe,B4,if_false];refine A0 (PyProof.Rows.len_tuple ht (by rw[Bk]at hz;omega) ?_)
 refine A0 (m:=asInt? _) (Cn (a:=some (items.size:Int)) rfl ?_)
 try right
 unfold C1.SmallTypes.newRecord;refine A0 (Bc ?_ (by size_fits));exact x6 ⟨⟨_,Ak _ rfl,rfl⟩,h _⟩
def æ{it t:As}{i:Nat}{x:A9}{Q:Option A9->Ae->Prop}(aG:s.heap.get? it=some (rK t (i:Int)))(ht:Jo s.heap t items)(hi:(i:Int)<2 ^ 62)(hx:items[i]?=some x)(hQ:∀h' tk,h'.get? it=some (rK t ((i:Int)-1))->Dd it s.heap h'->Q (some x) { s with heap:=h',toks:=tk }):Ah (Aw prog w) A (Hb (.ref it)) Q E s:=by
 have hT:s.TypeIs (.ref it) "reversed":=⟨_,aG,rfl⟩
 have hTt:s.TypeIs (.ref t) "tuple":=by obtain⟨o,ho,hc,_⟩:=ht;exact⟨o,ho,hc⟩
 unfold Hb;refine A0 (Ha (Cy (name:=Bl "__next__") hT zN (Ct zN hT OH ?_ (NX _))));unfold C1.«reversed.__next__»;refine A0 (Cn (a:=(Co it,[])) rfl ?_)
 try right
 refine A0 (Dt aG rfl (x:=.ref t) rfl ?_);refine A0 (Dt aG rfl (x:=rawInt (i:Int)) rfl ?_);show Ah _ _ (if (i:Int)<0 then _ else _) _ _ s;rw[y8 ⋯];refine A0 (F5 hTt F.slot_tuple_getitem.lookup ?_);simp only[Option.isNone_some,B4,if_false];have ak:i<items.size:=(Fm.mp hx).1;refine A0 (wpAny_mkInt (A0 (Ha (PyProof.Rows.getItem_tuple (s:={ s with toks:=s.toks+1 }) ht ⋯ ⋯ (Oa ⋯ ⋯) (by rw[Av];exact hx) ?_))))
 try right
 refine A0 (Dt aG rfl (x:=rawInt (i:Int)) rfl ?_);refine A0 (Fk aG rfl (by simp) (x6 ⟨x,rfl,x6 (hQ _ _ ?_ (Bp ..))⟩));exact C9 _ aG rfl
def å{it t:As}{Q:Option A9->Ae->Prop}(hh:A.handled=none)(aG:s.heap.get? it=some (rK t (-1)))(hQ:∀h',Oc it s.heap h'->Q none { s with heap:=h' }):Ah (Aw prog w) A (Hb (.ref it)) Q E s:=by
 have hT:s.TypeIs (.ref it) "reversed":=⟨_,aG,rfl⟩;unfold Hb;refine A0 (Ha (Cy (name:=Bl "__next__") hT zN (Ct zN hT OH ?_ (NX _))));unfold C1.«reversed.__next__»;refine A0 (Cn (a:=(Co it,[])) rfl ?_)
 try right
 refine A0 (Dt aG rfl (x:=.ref t) rfl ?_);refine A0 (Dt aG rfl (x:=rawInt (-1)) rfl ?_);show Ah _ _ (if (-1:Int)<0 then _ else _) _ _ s;rw[y6 ∅];refine A0 (Fl ?_);refine A0 ?_;show Ah _ _ (setField (.ref it) 1 (rawInt (-1)) >>= λ_=>setField (.ref it) 0 .none) _ _ s;refine A0 (Fk aG rfl (by simp) ?_)
 have g1:=C9 (Ka.mapFields (·.setIfInBounds 1 (rawInt (-1)))) aG rfl;refine Fk g1 rfl (by simp) ?_;refine A0 ?_;unfold C1.SmallTypes.stopIteration;simp only[newExc,O0];refine A0 (A0 (Bc ?_ (by size_fits)));refine A0 (m:=Hm _ _) (Cn (a:=Bx) (by first|rfl|(simp only[Hm];rfl)) ?_)
 refine Bc ?_ (by size_fits);simp only[raiseNew];refine A0 (Nk ?_);rw[show A.in1.handled=none from hh];refine A0 (x6 (Od ?_));refine A0 (Hx (T:="StopIteration") (b:=true) ⟨_,Ak _ rfl,rfl⟩ isSubtype_stop ?_);exact x6 (hQ _ ((((Bp ..).trans (Bp ..)).extBut.push _).push _))
def Γ(hh:A.handled=none)(it t:As)(am:t≠it)(items:Array A9)(hz:items.size<=sizeLine):
  Nf prog w A it [it,t] [it] items.size (λi v=>items[items.size-1-i]?=some v) (λi h=>h.get? it=some (rK t ((items.size:Int)-1-i))/\Jo h t items) where
 sub:=λb hb=>by simp at hb;simp[hb]
 frame:=λi h h' st hk=>⟨hk it (by simp) _ st.1,by
  obtain⟨o,ho,z⟩:=st.2
  exact⟨o,hk t (by simp) o ho,z⟩⟩
 item:=λi s Q E hi st hQ=>by
  have e:(items.size:Int)-1-i=((items.size-1-i:Nat):Int):=by omega
  have hx:=D0 (show items.size-1-i<items.size by omega);have h1:=st.1;rw[e]at h1;refine æ h1 st.2 (by rw[Bk]at hz;omega) hx λh' tk g sb=>hQ _ h' tk hx ⟨?_,?_⟩ λb o hb q=>(sb.2 b (by simpa using hb)).trans q
  .rw[g,show ((items.size-1-i:Nat):Int)-1=(items.size:Int)-1-((i+1:Nat):Int) by omega]
  .obtain⟨o,ho,z⟩:=st.2;exact⟨o,(sb.2 t am).trans ho,z⟩
 done:=λs Q E st hQ=>by have h1:=st.1;rw[show (items.size:Int)-1-(items.size:Nat) = -1 by omega]at h1;exact å hh h1 λh' sb=>hQ h' s.toks λb o hb q=>sb b o (by simpa using hb) q
 self:=λi s Q E st q=>by have hT:s.TypeIs (.ref it) "reversed":=⟨_,st.1,rfl⟩;exact Lq hT OB (Ct OB hT Xa (x6 ⟨_,rfl,"reversed",_,hT,zN.lookup,q⟩) (Wk _))
def ZN{it t:As}{items:Array A9}{Q:List A9->Ae->Prop}(hh:A.handled=none)(aG:s.heap.get? it=some (rK t ((items.size:Int)-1)))(ht:Jo s.heap t items)(hz:items.size<=sizeLine)(hQ:∀us h' tk,us=items.toList.reverse->(∀b o,b≠it->s.heap.get? b=some o->h'.get? b=some o)->s.heap.objs.size<=h'.objs.size->Q us { s with heap:=h',toks:=tk }):Ah (Aw prog w) A (Jz (.ref it)) Q E s:=by
 have am:t≠it:=λz=>by obtain⟨o,ho,hc,_⟩:=ht;rw[z,aG]at ho;cases ho;exact u3 (C4.inj hc) ∅
 have ilt:it<s.heap.objs.size:=Aj aG;unfold Jz;refine A0 (Jb (codeAny_builtin F.entry_proto_collect ?_));rw[Br F.plain_proto_collect _];show Ah _ A.in1 (N7 [] >>= λl=>Mx (.builtin "list.__iadd__" ⟨[l,.ref it],[]⟩)) _ _ s;refine A0 (Bc ?_);refine x6 ⟨plainId_quiet F.plain_list_iadd _,codeAny_builtin F.entry_list_iadd ?_⟩
 rw[Br F.plain_list_iadd _];generalize fg:s.heap.push { cls:=.type "list",data:=.seq ([]:List A9).toArray }=h1
 have g1:h1.get? s.heap.objs.size=some { cls:=.type "list",data:=.seq ([]:List A9).toArray }:=by rw[<-fg];exact Ak _ rfl
 have k1:∀b o,s.heap.get? b=some o->h1.get? b=some o:=λb o e=>by rw[<-fg];exact A8 _ e
 have eB:M6 { s with heap:=h1 } (.ref it) "reversed":=⟨_,k1 _ _ aG,rfl⟩
 have ht1:Jo h1 t items:=by obtain⟨o,ho,z⟩:=ht;exact⟨o,k1 _ _ ho,z⟩
 have W:=Γ (prog:=prog) (w:=w) (A:=A.in1) hh it t am items hz;show Ah _ A.in1 (Dw (.ref s.heap.objs.size) (.ref it) (.ref s.heap.objs.size)) _ _ { s with heap:=h1 };unfold Dw;refine A0 (F9 eB ?_)
 have e1:Ga (.ref s.heap.objs.size) (.ref it)=false:=by simp[Ga,Cw ilt]
 have e2:(C4 "reversed"==C4 "list")=false:=by decide
 have e3:(C4 "reversed"==C4 "tuple")=false:=by decide
 simp only[e1,e2,e3,Jx,B4,if_false];have st0:h1.get? it=some (rK t ((items.size:Int)-1-(0:Nat)))/\Jo h1 t items:=⟨by rw[k1 _ _ aG];simp,ht1⟩
 refine A0 (W.self 0 { s with heap:=h1 } _ _ st0 ?_);refine A0 (Ca ?_);unfold C1.List.listLengthHint;refine A0 (F5 eB Β ?_)
 try right
 refine Ko (λbW=>u3 bW (show ¬(false=true) by decide)) λ_=>?_;refine Ko (λbW=>u3 bW ∅) λ_=>?_;refine A0 (F5 eB HK.lookup ?_)
 have du:splitId "reversed.__length_hint__" = some ("reversed","__length_hint__"):=by decide +kernel
 try right
 rw[du]
 try right
 refine A0 (Hx eB F.sub_reversed_self ?_);simp only[Fe,B4,if_false];refine Ko (λbW=>u3 bW ‹_›) λ_=>?_;refine A0 (Fl ?_);refine A0 (Cn (HK.bind _) ?_)
 try right
 have dR:∀b∈[it,t],b≠s.heap.objs.size:=λb hb=>by
  rcases Ac.mp hb with z|z
  .rw[z];exact An ilt
  .obtain⟨o,ho,_⟩:=ht;rw[Ag.mp z];exact An (Aj ho)
 have av:∀(hp:Ch) (c₁ tk:Nat),hp.get? it=some (rK t ((items.size:Int)-1-(0:Nat)))/\Jo hp t items->(∀b o,b≠s.heap.objs.size->h1.get? b=some o->hp.get? b=some o)->hp.get? s.heap.objs.size=some { cls:=.type "list",data:=.seq #[] c₁ } ->
   Eu (Aw prog w) A (.builtin "list.extend.loop" ⟨[.ref s.heap.objs.size,.ref it,.ref s.heap.objs.size],[]⟩) (λr s'=>∃af c,r = .ok (.ret (.ref s.heap.objs.size))/\(∃h' tk,s'={ s with heap:=h',toks:=tk }/\(∀b o,b≠it->s.heap.get? b=some o->h'.get? b=some o))/\s'.heap.get? s.heap.objs.size=some { cls:=.type "list",data:=.seq af c }/\af.toList=items.toList.reverse) { s with heap:=hp,toks:=tk }:=λhp c₁ tk st ok hS=>by
  refine codeAny_extend_loopS W.toS hz _ (λz=>dR _ z rfl) _ items.size 0 _ _ _ rfl (Bh _) st hS (ItemsOf.nil _) λs' af c hm gW aC=>⟨af,c,rfl,⟨s'.heap,s'.toks,?_,λb o hb e=>?_⟩,gW,?_⟩
  .have e1:=hm.gens;have e2:=hm.drawn;have e3:=hm.os;cases s';simp only at e1 e2 e3;subst e1;subst e2;subst e3;rfl
  .have eS:=Aj e
   exact hm.heap b o (by
    simp only[Ac,Dg,or_false,not_or]
    exact⟨An eS,hb⟩) (ok b o (An eS) (k1 _ _ e))
  .apply Jl;intro j;rw[C0];by_cases hj:j<items.size
   .have gm:j<af.size:=by rw[aC.1];exact hj
    have:=aC.2 j _ (D0 gm)
    rw[D0 gm,<-this,List.getElem?_reverse (by simpa using hj),C0,Ar]
   .rw[Jm (by rw[aC.1];omega),Fq (by simp;omega)]
 refine A0 (Ha (Ct HK eB WZ ?_ (Wj _)));unfold C1.«reversed.__length_hint__»;refine A0 (Cn (a:=Co it) rfl ?_);refine A0 (Dt (k1 _ _ aG) rfl (x:=.ref t) rfl ?_);show Ah _ _ (if (Co t==Bx)=true then _ else _) _ _ _;rw[y8 (show ¬((Co t==Bx)=true) from Ay)];refine A0 (PyProof.Rows.len_tuple (s:={ s with heap:=h1 }) ht1 (by rw[Bk]at hz;omega) ?_)
 refine A0 (m:=asInt? _) (Cn (a:=some (items.size:Int)) rfl ?_)
 try right
 refine A0 (Dt (k1 _ _ aG) rfl (x:=rawInt ((items.size:Int)-1)) rfl ?_);show Ah _ _ (if (items.size:Int)<(items.size:Int)-1+1 then _ else _) _ _ _;rw[y8 ⋯];refine wpAny_ret_mkInt ?_
 try right
 refine A0 (m:=asInt? _) (Cn (a:=some ((items.size:Int)-1+1)) rfl ?_)
 try right
 have iK:items.size<=1152921504606846975:=by rw[Bk]at hz;omega
 have hfi:C1.List.listFitsIndex ((items.size:Int)-1+1)=true:=by unfold C1.List.listFitsIndex;rw[Y1 ⋯,Y1 ⋯];rfl
 have iL:Ez ((items.size:Int)-1+1).toNat=false:=by unfold Ez;exact W4 (by rw[show ((items.size:Int)-1+1).toNat=items.size by omega];omega)
 rw[hfi,iL];simp only[Fe,B4,if_false];rw[y8 ⋯];refine x6 ?_
 have fin:∀{r:Kz} {s':Ae},(∃af c,r = .ok (.ret (.ref s.heap.objs.size))/\(∃h' tk,s'={ s with heap:=h',toks:=tk }/\(∀b o,b≠it->s.heap.get? b=some o->h'.get? b=some o))/\s'.heap.get? s.heap.objs.size=some { cls:=.type "list",data:=.seq af c }/\af.toList=items.toList.reverse)->(match r with
   | .ok (.ret v)=>Ah (Aw prog w) A (match v with
     | .ref a=>do
      let __do_lift <-load a
      match __do_lift.data with
       |Jc xs epoch=>Ci xs.toList
       |x=>Of "internal:collect"
     |x=>Of "internal:collect") Q E s'
   | .ok _=>False
   | .error e=>E e s'):=λ{r s'} ⟨af,c,e,⟨h',tk,es,hk⟩,hg,ha⟩=>by
  subst e es;refine A0 (Mm hg ?_);exact x6 (hQ _ h' tk ha hk (Dc (Aj hg)))
 have hSn:s.heap.objs.size≠it:=Cw ilt;refine Ko (λ_=>?_) λ_=>x6 ⟨plainId_quiet F.plain_extend_loop _,codeAny_mono (av h1 _ _ st0 (λb o _ e=>e) g1) λr s' z=>fin z⟩;refine A0 (Fl ?_);refine A0 ?_;show Ah _ A.in1 (Gh s.heap.objs.size (·.push .none) >>= λ_=>Gh s.heap.objs.size (·.pop)) _ _ _;refine A0 (Ee g1 rfl ?_)
 have dJ:=C9 (Cg (·.push Bx)) g1 rfl;refine Ee dJ rfl ?_;have gS3:=C9 (Cg (·.pop)) dJ rfl
 have hV:∀b o,b≠s.heap.objs.size->h1.get? b=some o->((h1.update s.heap.objs.size (Cg (·.push Bx))).update s.heap.objs.size (Cg (·.pop))).get? b=some o:=λb o hb e=>(Bd _ _ (Cz hb)).trans ((Bd _ _ (Cz hb)).trans e)
 exact x6 ⟨plainId_quiet F.plain_extend_loop _,codeAny_mono (av _ _ _ (W.frame 0 _ _ st0 λb hb o e=>hV b o (dR b hb) e) hV gS3) λr s' z=>fin z⟩
end
def Ϝ{h':Ch}{t':Nat}{a l:As}{o:HO}(I:a9 X aa U H s)(hH:H a=some (.ext φ))(hs:X.s₀.heap.objs.size<=a)(k:∀b ob,b≠a->s.heap.get? b=some ob->h'.get? b=some ob)(hl:s.heap.objs.size<=l)(new:∀H':Hp,H' l=some o->kX X.prog X.w H' h' l o):a9 X aa U (upd (λb=>if b=a then none else H b) l o) { s with heap:=h',toks:=t' }:=by
 have hn:H l=none:=I.hok.fresh hl;have lt:∀b ob,s.heap.get? b=some ob->b≠l:=λb ob e=>An (B3 (Aj e) hl)
 have nl:∀b u,H b=some u->b≠l:=λb u e z=>by rw[z,hn]at e;cases e
 have st:∀b u,b≠a->H b=some u->(upd (λb=>if b=a then none else H b) l o) b=some u:=λb u hb e=>by rw[j3 (nl b u e)];exact(y8 hb).trans e
 refine I.call (g':=s.gens) (d':=s.drawn) (ch:=[a]) ⟨λb ob e n _ hx=>k b ob (by simpa using hx) e,λb ob e n _ hx=>⟨ob.slots,k b ob (by simpa using hx) e⟩,λb ob e n hx=>by rw[j3 (lt b ob e)];exact(y8 (by simpa using hx)).trans n,λb ob e hx=>⟨ob,k b ob (by simpa using hx) e⟩,
  λb xs e=>st b _ (λz=>by rw[z,hH]at e;cases e) e,λb ob u e=>st b _ (λz=>by rw[z,hH]at e;cases e) e,λb ps e=>⟨#[],by rw[st b _ (λz=>by rw[z,hH]at e;cases e) e];simp⟩⟩ (λb u e=>?_) I.bare λb hb=>?_
 .by_cases hb:b=l
  .subst hb;rw[w6]at e;cases e;exact new _ w6
  .rw[j3 hb]at e;split at e
   .cases e
   .rename_i ia;refine(I.hok b u e).stay (λc v hc q=>k c v ?_ q) (λc q=>st c _ (λz=>by rw[z,hH]at q;cases q) q) (λc xs q=>st c _ (λz=>by rw[z,hH]at q;cases q) q) λc ob xs q=>st c _ (λz=>by rw[z,hH]at q;cases q) q
    rcases hc with z|z
    .rw[z];exact ia
    .intro y;rw[y,hH]at z;cases z
 .rw[Ag.mp hb];refine⟨.inr hs,λz=>?_,λx c e z=>?_,λp hp z=>?_⟩
  .have:=I.free;rw[<-z,hH]at this;cases this
  .have:=I.freeC x c e;rw[z,hH]at this;cases this
  .have:=(I.pin p hp).2.1;rw[z,hH]at this;cases this
section
variable{X:Cx}{p p2 pos aU:Hi}{a:Expr}{fa:ED}
abbrev FT(t:As)(n:Nat)(a:As):HO:=.ext λh=>h.get? a=some (rK t ((n:Int)-1))
def v3L(X:Cx):List V->Hp->VK->Prop:=λxs H Q=>∃(p:As) (ys:List V),xs=[.ref p]/\i8 X.K H p ys/\∀a,H a=none->X.s₀.heap.objs.size<=a->Q (.ref a) (upd H a (FT p ys.length a))
def ύ:lC X (.type "reversed") (v3L X):=by
 intro aa s U H xs us Q I r h;obtain⟨p,ys,rfl,hq,q⟩:=h;obtain⟨u,rfl,ru⟩:=l7 r;cases ru;obtain⟨its,rv,pl,hz⟩:=I.tuple hq;have hl:=rv.length;refine Ŷ pl (by rw[Af,<-hl];exact hz) λtk=>?_
 have e:((its.toArray.size:Nat):Int)=(ys.length:Int):=by simp[hl]
 rw[e];exact⟨.ref s.heap.objs.size,_,I.laid (t':=tk) (o:=FT p ys.length s.heap.objs.size) (λb o e=>A8 _ e) (Ad _) ⟨Ak _ rfl,⟨_,Ak _ rfl⟩,λh1 h2 z k=>k _ z⟩,rfl,q _ (I.hok.fresh (Ad _)) I.sz⟩
def Ü(X:Cx):List V->Hp->VK->Prop:=λxs H Q=>∃(p a:As) (ys:List V),xs=[.ref a]/\H a=some (FT p ys.length a)/\X.s₀.heap.objs.size<=a/\i8 X.K H p ys/\∀l,H l=none->Q (.ref l) (upd (λb=>if b=a then none else H b) l (.tup ys.reverse))
def İ(hc:X.calm=true):lC X (.type "tuple") (Ü X):=by
 intro aa s U H xs us Q I r h;obtain⟨p,a,ys,rfl,hH,hsa,hq,q⟩:=h;obtain⟨u,rfl,ru⟩:=l7 r;cases ru;obtain⟨its,rv,pl,hz⟩:=I.tuple hq;have hl:=rv.length
 have aG:s.heap.get? a=some (rK p ((its.toArray.size:Int)-1)):=by
  have:=(I.hok a _ hH).1
  have e:((its.toArray.size:Nat):Int)=(ys.length:Int):=by simp[hl]
  rw[e];exact this
 refine Qz (T:="reversed") (P:=λus h'=>us=its.reverse/\s.heap.objs.size<=h'.objs.size/\∀b o,b≠a->s.heap.get? b=some o->h'.get? b=some o) ⟨_,aG,rfl⟩ ∅ (λ{E' Q'} q'=>ZN (A:=X.A.in1.in1) (I.ok.hd hc) aG pl (by rw[Af,<-hl];exact hz) λus h' tk e k z=>q' us h' tk ⟨by simpa using e,z,k⟩) λus h' tk ⟨e,hle,k⟩=>?_
 subst e;refine⟨by rw[Gb,<-hl];exact hz,?_⟩
 have ab:ys.reverse.length<=sizeLine:=by rw[Gb];exact hz
 exact⟨.ref h'.objs.size,_,Ϝ (t':=tk) (o:=.tup ys.reverse) I hH hsa (λb ob hb e=>A8 _ (k b ob hb e)) hle (λH' e=>show kX X.prog X.w _ _ _ (.tup ys.reverse) from ⟨ab,its.reverse,JQ rv,o5.new _ _⟩),rfl,q _ (I.hok.fresh hle)⟩
def LI(f:ED):ED:=λY=>match f Y with|some (.tup ds)=>some (.tup ds.reverse)|_=>none
def Ġ(hc:X.calm=true)(hm:X.mg "tuple" = none)(cg:X.mg "reversed" = none)(h:ZE X a fa)(hg:Gl X "tuple":=by rfl)(eV:Gl X "reversed":=by rfl)(he:J0 a=true:=by rfl): ZE X (.Call (.Name "tuple" p) [.Call (.Name "reversed" p2) [a] [] aU] [] pos) (LI fa):=
 ⟨have h:=h.h;
 j6 (oN (İ hc) hg hm ‹_› (J7 (oN ύ eV cg ‹_› (J7 h Y5 (w9 he)) ∅ ∅ (w9 he) (K7 rfl)) Y5 (w9 rfl)) ∅ ∅ (w9 rfl) (K7 rfl)) λU H Q h_=>by
  refine f7 h_ λY d B H0 V0 Z e r q=>?_;unfold LI at e;split at e
  .rename_i ds ed;cases e;refine⟨Y,_,B,H0,V0,Z,ed,r,λv H' s rr=>?_⟩;obtain⟨t,xs,rfl,h1,h2⟩:=j5.mp rr;have cJ:=j9 v4 h1;refine⟨t,xs,rfl,cJ,λp1 cN hs=>⟨t,p1,xs,rfl,w6,hs,j9 (u9 cN) cJ,λl hl=>?_⟩⟩
   have hlp:l≠p1:=λz=>by rw[z,w6]at hl;cases hl
   have bR:H' l=none:=by rwa [j3 hlp]at hl
   have eH:(upd (λb=>if b=p1 then none else (upd H' p1 (FT t xs.length p1)) b) l (.tup xs.reverse))=upd H' l (.tup xs.reverse):=by
    funext b;by_cases z:b=l
    .subst z;rw[w6,w6]
    .rw[j3 z,j3 z];by_cases y:b=p1
     .subst y;rw[y6 rfl,cN]
     .rw[y8 y,j3 y]
   rw[eH];have sn:=u9 (o:=HO.tup xs.reverse) bR;refine q _ _ (s.trans sn) (j5.mpr ⟨l,_,rfl,i8.of ?_,(JM h2).mono (x9 sn)⟩);rw[K8 ((r.mono s).newer bR)];exact w6
  .cases e⟩
end
section
variable{X:Cx}{e:Expr}
def j4(h:ZE X e f):ZQ X e (b9 f):=
 ⟨NA h.h⟩
end
section
variable{X:Cx}{e:Expr}{es:List Expr}{f:ED}{g:EL}{pos:Hi}
def z8:ZA X [] Q7:=
 ⟨xI ⟩
def z6(ha:ZE X e f)(hr:ZA X es g)(hs:J0 e=true:=by rfl): ZA X (e::es) (z9 f g):=
 ⟨qW ha.h hr.h hs⟩
end
section
variable{X:Cx}{a b c:Expr}{fa fb fc:ED}{pos:Hi}
def Ű{fb:EL}(hu:X.A.units+64<D8)(ha:ZE X a fa)(hb:ZQ X b fb)(hm:Dj .In b=false:=by with_unfolding_all rfl):ZE X (.Compare a [.In] [b] pos) (kN false fa fb):=
 ⟨v1E hu ha.h hb.h hm⟩
def UW{fb:EL}(hu:X.A.units+64<D8)(ha:ZE X a fa)(hb:ZQ X b fb)(hm:Dj .In b=false:=by with_unfolding_all rfl):ZT X (.Compare a [.In] [b] pos) (u0 (kN false fa fb)):=
 ⟨TZ hu ha.h hb.h hm⟩
def wM{fb:EL}(hu:X.A.units+64<D8)(ha:ZE X a fa)(hb:ZQ X b fb)(hm:Dj .NotIn b=false:=by with_unfolding_all rfl):ZT X (.Compare a [.NotIn] [b] pos) (u0 (kN true fa fb)):=
 ⟨UL hu ha.h hb.h hm⟩
def u8{fa:EL}(ha:ZQ X a fa)(hb:ZE X b fb)(hs:DW b:=by exact λ_ _=>rfl):ZE X (.Subscript a b pos) (i3 fa fb):=
 ⟨v1D ha.h hb.h hs⟩
def AA{lo hi:Option Expr}{p2:Hi}{fl fh:J5->Option (Option Int)}(he:ZE X a fa)(hl:ZO X lo fl)(hh:ZO X hi fh):ZE X (.Subscript a (.Slice lo hi none p2) pos) (l5 fa fl fh):=
 ⟨TY he.h hl.h hh.h⟩
end
section
variable{X:Cx}{a b e o:Expr}{pos aS p:Hi}{f fa fb:ED}
def zB(hu:X.A.units+64<D8)(ho:ZE X o fa)(hi:ZE X a fb)(hs:BB a:=by exact λ_ _=>rfl):ZE X (.Subscript o a pos) (pH fa fb):=
 ⟨é hu ho.h hi.h hs⟩
end
end L3
namespace P
open PySem L2 L3
abbrev dI(i:Int):J5->Option D:=dC (.int i)
abbrev jF(i:Nat)(j:Int):J5->Option D:=i3 (b9 (y3 i)) (dI j)
abbrev mM:J5->Option Out:=i9 (dC (.bl false))
abbrev kM(i:Nat):J5->Option (List D):=z9 (y3 i) Q7
abbrev jQ(i j:Nat):J5->Option (List D):=z9 (y3 i) (z9 (y3 j) Q7)
abbrev lK(i j k:Nat):J5->Option (List D):=z9 (y3 i) (z9 (y3 j) (z9 (y3 k) Q7))
abbrev dV4(i j k l:Nat):J5->Option (List D):=z9 (y3 i) (z9 (y3 j) (z9 (y3 k) (z9 (y3 l) Q7)))
abbrev Vv(i j k l m:Nat):J5->Option (List D):=z9 (y3 i) (z9 (y3 j) (z9 (y3 k) (z9 (y3 l) (z9 (y3 m) Q7))))
def jW(i:Nat):Dl:=PySem.Challenge.pw_pageties_k09_whole_rows_and_webs_changed.main.body.getD i (.Pass ⟨0,0,0,0⟩)
abbrev YK:Dl:=jW 48
abbrev YM:Dl:=jW 49
abbrev YL:Dl:=jW 50
abbrev ç:Dl:=jW 3
abbrev Ε:Dl:=jW 4
abbrev Qv:Dl:=jW 13
abbrev Xm:Dl:=jW 1
abbrev YO:Dl:=jW 14
abbrev Đ:Dl:=jW 15
abbrev XV:Dl:=jW 16
abbrev VG:Dl:=jW 17
abbrev YI:Dl:=jW 18
abbrev V4:Dl:=jW 24
abbrev VI:Dl:=jW 26
abbrev Xl:Dl:=jW 27
abbrev V6:Dl:=jW 19
abbrev XW:Dl:=jW 20
abbrev č:Dl:=jW 21
abbrev XF:Dl:=jW 28
abbrev V2:Dl:=jW 29
abbrev WD:Dl:=jW 23
abbrev Xj:Dl:=jW 30
abbrev XG:Dl:=jW 31
abbrev V7:Dl:=jW 32
abbrev YJ:Dl:=jW 33
abbrev WE:Dl:=jW 34
abbrev VM:Dl:=jW 25
abbrev XE:Dl:=jW 35
abbrev ď:Dl:=jW 51
abbrev YN:Dl:=jW 5
abbrev Xn:Dl:=jW 7
abbrev đ:Dl:=jW 6
abbrev V3:Dl:=jW 52
abbrev Ď:Dl:=jW 47
abbrev Ţ:Dl:=jW 8
abbrev ċ:Dl:=jW 39
abbrev VZ:Dl:=jW 40
abbrev Xi:Dl:=jW 41
abbrev WG:Dl:=jW 37
abbrev XU:Dl:=jW 38
abbrev XX:Dl:=jW 42
abbrev WF:Dl:=jW 43
abbrev Č:Dl:=jW 44
abbrev Xk:Dl:=jW 45
abbrev V5:Dl:=jW 9
abbrev Δ:Dl:=jW 10
abbrev TX:Dl:=jW 53
def U6{α:Type}(p:List α->Prop)(f:∀x0,p [x0]):∀us:List α,us.length=1->p us:=λus h=>match us,h with|[x0],_=>f x0
def U7{α:Type}(p:List α->Prop)(f:∀x0 x1,p [x0,x1]):∀us:List α,us.length=2->p us:=λus h=>match us,h with|[x0,x1],_=>f x0 x1
def U8{α:Type}(p:List α->Prop)(f:∀x0 x1 x2,p [x0,x1,x2]):∀us:List α,us.length=3->p us:=λus h=>match us,h with|[x0,x1,x2],_=>f x0 x1 x2
def v3O{α:Type}(p:List α->Prop)(f:∀x0 x1 x2 x3,p [x0,x1,x2,x3]):∀us:List α,us.length=4->p us:=λus h=>match us,h with|[x0,x1,x2,x3],_=>f x0 x1 x2 x3
def v3N{α:Type}(p:List α->Prop)(f:∀x0 x1 x2 x3 x4,p [x0,x1,x2,x3,x4]):∀us:List α,us.length=5->p us:=λus h=>match us,h with|[x0,x1,x2,x3,x4],_=>f x0 x1 x2 x3 x4
def w0A:List Ba:=["_law_cell_here","_law_prime","_law_many_here"]
def Yd:EO:=i9 (d2 oX (d2 oX (d2 oR (y3 0) (dI 48271)) (y3 1)) (y3 2))
def K3:LD:=jJ 3 w0A Yd
def w08:List Ba:=["_law_cell_here","_law_most","_law_ties","_law_many_here","_law_found","_law_k","_law_one","_law_other","_law_tie"]
def Pq:EO:=
 J6 (i4 3 (d2 jE (dI 1) (x8 K3 (z9 (y3 0) (z9 (dI 9973) (kM 1))))))
 (J6 (jV (qE (u0 (d2 oU (y3 3) (dI 4))) (u0 (d2 BC (d2 oX (y3 0) (dI 4)) (dI 0))))
 (i4 3 (y3 1))
 jZ)
 (J6 (nL 4 (m7 Q7))
 (J6 (lB (kF (x8 K3 (z9 (y3 0) (z9 (dI 9967) (z9 (d2 jE (y3 2) (dI 1)) Q7))))) (u4 5)
 (J6 (i4 6 (x8 K3 (z9 (d2 jE (y3 0) (d2 oR (dI 11) (y3 5))) (z9 (dI 9949) (kM 3)))))
 (J6 (i4 7 (x8 K3 (z9 (d2 jE (d2 jE (y3 0) (d2 oR (dI 13) (y3 5))) (dI 1)) (z9 (dI 9941) (kM 3)))))
 (J6 (i4 8 (jP (z9 (x8 rP (jQ 6 7)) (z9 (x8 uH (jQ 6 7)) Q7))))
 (jV (qE (u0 (d2 kZ (y3 6) (y3 7))) (u0 (kN true (y3 8) (kK 4))))
 (qK 4 (y3 8))
 jZ)))))
 (i9 (jP (z9 (y3 3) (z9 (lR (nS lO (kK 4))) Q7)))))))
def CN:LD:=jJ 3 w08 Pq
def w09:List Ba:=["_law_cell_here","_law_many_here","_law_left"]
def Pp:EO:=
 J6 (nL 2 (oM (y3 1)))
 (i9 (lR (zR [none,some 2,some 0,some 1] (kF (y3 1)) (u4 0) (yF 1 (x8 K3 (z9 (d2 jE (y3 2) (d2 oR (dI 5) (y3 0))) (z9 (dI 9931) (z9 (d2 pJ (y3 3) (y3 0)) Q7))))))))
def zD:LD:=jJ 2 w09 Pp
def ű:List Ba:=["row","by","first"]
def IG:EO:=
 J6 (i4 2 (d2 oX (y3 1) (kE (b9 (y3 0)))))
 (i9 (d2 jE (nN (l5 (y3 0) (mH (y3 2)) (nE)) (vW (y3 0) (mH (y3 2)) (nE))) (nN (l5 (y3 0) (nE) (mH (y3 2))) (vW (y3 0) (nE) (mH (y3 2))))))
def LC:LD:=jJ 2 ű IG
def ϊ:List Ba:=["row"]
def ϖ:EO:=i9 (MV (y3 0) (rO (dI 1)))
def BS:LD:=jJ 1 ϊ ϖ
def GP:List Ba:=["row","spots","spot","place"]
def GR:EO:=
 J6 (qG 1 (λ_=>some ([],[])))
 (J6 (lB (xO (y3 0)) (nK 2 (Z9 (u4 2) (Z9 (u4 3) (nJ))))
 (nO 1 (y3 3) (y3 2)))
 (λY=>i9 (y3 1) (frz 1 Y)))
def GN:LD:=jJ 1 GP GR
def VR:J5->Option KD:=
 FF (qG 1 (λ_=>some ([],[])))
 (FF (lB (xO (y3 0)) (nK 2 (Z9 (u4 2) (Z9 (u4 3) (nJ))))
 (nO 1 (y3 3) (y3 2)))
 (LS 1))
def QB:List D->Option KD:=FQ 1 GP VR
def WV:List Ba:=["one","other"]
def OJ:EO:=i9 (jP (z9 (x8 rP (jQ 0 1)) (z9 (x8 uH (jQ 0 1)) Q7)))
def Y7:LD:=jJ 2 WV OJ
def w06:List Ba:=["spots","tie"]
def JX:EO:=i9 (x8 Y7 (z9 (pH (y3 0) (jF 1 0)) (z9 (pH (y3 0) (jF 1 1)) Q7)))
def CO:LD:=jJ 2 w06 JX
def Zp:List Ba:=["web","row","spots"]
def Qc:EO:=
 J6 (i4 2 (x8 GN (kM 1)))
 (i9 (lG (Q5 [none,some 2] (b9 (jF 0 1)) (u4 0) lH (x8 CO (jQ 1 0)))))
def zG:LD:=jJ 2 Zp Qc
def XI:List Ba:=["one","other","first","second"]
def IA:EO:=
 J6 (jV (qL (u0 (kN false (jF 0 0) (b9 (y3 1)))) (u0 (kN false (jF 0 1) (b9 (y3 1)))))
 (i9 (dC (.str "meet")))
 jZ)
 (J6 (i4 2 (x8 LW (jQ 0 1)))
 (J6 (i4 3 (x8 LU (jQ 0 1)))
 (J6 (jV (u0 (d2 oU (jF 2 1) (jF 3 0)))
 (i9 (dC (.str "apart")))
 jZ)
 (i9 (yM (u0 (d2 oU (jF 2 1) (jF 3 1))) (dC (.str "cross")) (dC (.str "within")))))))
def HY:LD:=jJ 2 XI IA
def Vz:List Ba:=["one","other","kind"]
def ID:EO:=i9 (d2 lY (x8 HY (jQ 0 1)) (LQ [("pile","cross"),("queue","within")] (y3 2)))
def Q9:LD:=jJ 3 Vz ID
def w0B:List Ba:=["web","row","kind","spans","found","one","span","later"]
def Po:EO:=
 J6 (i4 3 (x8 zG (jQ 0 1)))
 (J6 (nL 4 (m7 Q7))
 (J6 (lB (xO (y3 3)) (nK 2 (Z9 (u4 5) (Z9 (u4 6) (nJ))))
 (J6 (i4 7 (lG (Q5 [none,some 6,some 3,some 2] (sM (d2 jE (y3 5) (dI 1)) (kE (b9 (y3 3)))) (u4 0) (u0 (x8 Q9 (z9 (y3 1) (z9 (i3 (b9 (y3 2)) (y3 0)) (kM 3))))) (y3 0))))
 (o6 4 (Q5 [none,some 5] (b9 (y3 7)) (u4 0) lH (jP (jQ 1 0))))))
 (i9 (lR (kK 4)))))
def zC:LD:=jJ 3 w0B Po
def ĩ:List Ba:=["web","row","kind","rivals","one","other"]
def VO:EO:=vQ 3 4 5 (b9 (jF 0 1)) (b9 (x8 zC (lK 0 1 2)))
def HA:LD:=jJ 3 ĩ VO
def VH:List Ba:=["rivals","pages","tie"]
def OU:EO:=i9 (lG (Q5 [none,some 1] (b9 (i3 (b9 (y3 0)) (y3 2))) (u4 0) (nN (u0 (kN false (y3 0) (b9 (y3 1)))) (u0 (sR false (y3 0) (y3 1)))) (pH (y3 1) (y3 0))))
def J8:LD:=jJ 3 VH OU
def WU:List Ba:=["web","row","rivals","spans","pages","tie","taken"]
def HR:EO:=
 J6 (i4 3 (x8 zG (jQ 0 1)))
 (J6 (qG 4 (λ_=>some ([],[])))
 (J6 (lB (b9 (lG (qT [none,some 3] (oM (kE (b9 (y3 3)))) (i3 (b9 (y3 1)) (y3 0))))) (u4 5)
 (J6 (i4 6 (rH 4 (x8 J8 (lK 2 4 5))))
 (nO 4 (y3 5) (xP (Q5 [none,some 6] (kF (d2 jE (kE (b9 (y3 6))) (dI 1))) (u4 0) (u0 (kN true (y3 0) (b9 (y3 1)))) (y3 0))))))
 (λY=>i9 (y3 4) (frz 4 Y))))
def DS:LD:=jJ 3 WU HR
def ī:List Ba:=["spans","gap","over"]
def HD:EO:=
 J6 (i4 2 (lG (Q5 [none,some 0,some 1] (kF (kE (b9 (y3 0)))) (u4 0) (u0 (qS rN MT (i3 (b9 (i3 (b9 (y3 1)) (y3 0))) (dI 0)) (y3 2) (i3 (b9 (i3 (b9 (y3 1)) (y3 0))) (dI 1)))) (y3 0))))
 (i9 (lG (qT [none,some 0] (b9 (y3 2)) (i3 (b9 (y3 1)) (y3 0)))))
def DL:LD:=jJ 2 ī HD
def XJ:List Ba:=["spans","ties","kind","chains","tie","before"]
def OR:EO:=
 J6 (nL 3 (m7 Q7))
 (J6 (lB (b9 (y3 1)) (u4 4)
 (J6 (i4 5 (lG (Q5 [none,some 0,some 4,some 2] (kK 3) (u4 0) (u0 (x8 Q9 (z9 (i3 (b9 (y3 1)) (i3 (b9 (y3 0)) (rO (dI 1)))) (z9 (i3 (b9 (y3 1)) (y3 2)) (kM 3))))) (y3 0))))
 (qK 3 (d2 jE (AD (b9 (y3 5)) (jP Q7)) (jP (kM 4))))))
 (i9 (AD (kK 3) (jP Q7))))
def DV:LD:=jJ 3 XJ OR
def Zm:List Ba:=["web","row","kind","spans","found","gap"]
def Qb:EO:=
 J6 (i4 3 (x8 zG (jQ 0 1)))
 (J6 (i4 4 (jP Q7))
 (J6 (lB (kF (d2 pJ (jF 0 0) (dI 1))) (u4 5)
 (i4 4 (d2 wH (y3 4) (x8 DV (z9 (y3 3) (z9 (x8 DL (jQ 3 5)) (kM 2)))))))
 (i9 (lR (nS lO (b9 (y3 4)))))))
def DA:LD:=jJ 3 Zm Qb
def Xw:List Ba:=["rivals","tie","group","reached"]
def HV:EO:=
 J6 (nL 2 (m7 (kM 1)))
 (J6 (i4 3 (dI 0))
 (J6 (oG 200 (u0 (d2 oU (y3 3) (kE (kK 2))))
 (J6 (o6 2 (Q5 [none,some 2] (b9 (i3 (b9 (y3 0)) (i3 (kK 2) (y3 3)))) (u4 0) (u0 (kN true (y3 0) (kK 1))) (y3 0)))
 (vN 3 (dI 1))))
 (λY=>i9 (y3 2) (frz 2 Y))))
def DU:LD:=jJ 2 Xw HV
def ħ:List Ba:=["rivals","groups","grouped","tie","member"]
def QM:EO:=
 J6 (nL 1 (m7 Q7))
 (J6 (qG 2 (λ_=>some ([],[])))
 (J6 (lB (kF (kE (b9 (y3 0)))) (u4 3)
 (jV (u0 (xN true (y3 3) 2))
 (J6 (qK 1 (x8 DU (jQ 0 3)))
 (lB (b9 (i3 (kK 1) (rO (dI 1)))) (u4 4)
 (nO 2 (y3 4) (dC (.bl true)))))
 jZ))
 (λY=>i9 (y3 1) (frz 1 Y))))
def GZ:LD:=jJ 1 ħ QM
def Wg:List Ba:=["pages"]
def HI:EO:=i9 (DZ (b9 (y3 0)))
def Q0:LD:=jJ 1 Wg HI
def WS:List Ba:=["rivals","group","pages","left"]
def OI:EO:=
 J6 (i4 3 (lG (Q5 [none,some 2] (b9 (y3 1)) (u4 0) (nN (u0 (kN true (y3 0) (b9 (y3 1)))) (u0 (sR true (y3 0) (y3 1)))) (y3 0))))
 (i9 (EA [none,some 0,some 2] (b9 (y3 3)) (jP (z9 (x8 Q0 (z9 (x8 J8 (lK 1 2 0)) Q7)) (z9 (kE (b9 (i3 (b9 (y3 1)) (y3 0)))) Q7)))))
def HL:LD:=jJ 3 WS OI
def Xx:List Ba:=["pages","many"]
def HW:EO:=i9 (lG (oM (x8 rP (z9 (y3 1) (z9 (d2 jE (x8 Q0 (z9 (lG (xQ (y3 0))) Q7)) (dI 1)) Q7)))))
def zP:LD:=jJ 2 Xx HW
def Ĭ:List Ba:=["pages","tie","page","more"]
def QO:EO:=
 J6 (qG 3 (zS (y3 0)))
 (J6 (nO 3 (y3 1) (y3 2))
 (λY=>i9 (y3 3) (frz 3 Y)))
def zL:LD:=jJ 3 Ĭ QO
def OY:List Ba:=["rivals","group","pages","many","tie","taken","page","found"]
def wT(Fr:LD):EO:=
 J6 (jV (u0 (d2 lY (vP (y3 2)) (kE (b9 (y3 1)))))
 (i9 (y3 2))
 jZ)
 (J6 (i4 4 (x8 HL (lK 0 1 2)))
 (J6 (i4 5 (x8 J8 (lK 0 2 4)))
 (J6 (lB (b9 (x8 zP (jQ 2 3))) (u4 6)
 (jV (u0 (kN true (y3 6) (b9 (y3 5))))
 (J6 (i4 7 (x8 Fr (z9 (y3 0) (z9 (y3 1) (z9 (x8 zL (lK 2 4 6)) (kM 3))))))
 (jV (u0 (d2 yE (y3 7) (dC .non)))
 (i9 (y3 7))
 jZ))
 jZ))
 (i9 (dC .non)))))
def Z6:Nat->List D->Option D
 | 0=>jJ 4 OY (λ_=>none)
 |k+1=>jJ 4 OY (wT (Z6 k))
def Wh:List Ba:=["rivals","many","pages","group","found"]
def HJ:EO:=
 J6 (qG 2 (λ_=>some ([],[])))
 (J6 (lB (b9 (x8 GZ (kM 0))) (u4 3)
 (J6 (i4 4 (x8 (Z6 12) (z9 (y3 0) (z9 (y3 3) (z9 (BH (λ_=>some ([],[]))) (kM 1))))))
 (J6 (oG 200 (u0 (d2 yL (y3 4) (dC .non)))
 (J6 (vN 1 (dI 1))
 (i4 4 (x8 (Z6 12) (z9 (y3 0) (z9 (y3 3) (z9 (BH (λ_=>some ([],[]))) (kM 1))))))))
 (FR 2 (y3 4)))))
 (λY=>i9 (y3 2) (frz 2 Y)))
def DQ:LD:=jJ 2 Wh HJ
def VL:List Ba:=["pages","numbers","page"]
def OW:EO:=
 J6 (qG 1 (λ_=>some ([],[])))
 (J6 (lB (b9 (y3 0)) (u4 2)
 (uP 1 (y3 2) (rH 1 (vP (y3 1)))))
 (λY=>(i9 (lR (Q5 [none,some 1] (b9 (y3 0)) (u4 0) lH (pH (y3 1) (y3 0))))) (frz 1 Y)))
def IF:LD:=jJ 1 VL OW
def Xv:List Ba:=["web","row","kind","rivals","pages"]
def HU:EO:=
 J6 (i4 3 (x8 HA (lK 0 1 2)))
 (J6 (jV (u0 (d2 lY (y3 2) (dC (.str "queue"))))
 (i4 4 (x8 DS (lK 0 1 3)))
 (i4 4 (x8 DQ (z9 (y3 3) (z9 (kE (b9 (x8 DA (lK 0 1 2)))) Q7)))))
 (i9 (x8 IF (z9 (lG (Q5 [none,some 4] (kF (kE (b9 (y3 3)))) (u4 0) lH (pH (y3 1) (y3 0)))) Q7))))
def Y8:LD:=jJ 3 Xv HU
def Zo:List Ba:=["_law_web_here","_law_row_here"]
def GQ:EO:=i9 (lG (Q5 [none,some 0,some 1] (b9 (jP (z9 (dC (.str "pile")) (z9 (dC (.str "queue")) Q7)))) (u4 0) lH (x8 Q0 (z9 (x8 Y8 (lK 1 2 0)) Q7))))
def sG:LD:=jJ 2 Zo GQ
def w07:List Ba:=["web","names"]
def Pr:EO:=i9 (jP (z9 (jF 0 0) (z9 (lR (nS lO (Q5 [none,none,some 1] (b9 (jF 0 1)) (nK 2 (Z9 (u4 0) (Z9 (u4 1) (nJ)))) lH (x8 Y7 (z9 (i3 (b9 (y3 2)) (y3 0)) (z9 (i3 (b9 (y3 2)) (y3 1)) Q7)))))) Q7)))
def JU:LD:=jJ 2 w07 Pr
def WW:List Ba:=["web","tie"]
def OK:EO:=i9 (jP (z9 (jF 0 0) (z9 (d2 jE (l5 (jF 0 1) (nE) (mH (y3 1))) (l5 (jF 0 1) (mH (d2 jE (y3 1) (dI 1))) (nE))) Q7)))
def DT:LD:=jJ 2 WW OK
def Zq:List Ba:=["web","one","other"]
def Qd:EO:=i9 (jP (z9 (jF 0 0) (z9 (lR (vE (b9 (d2 jE (jF 0 1) (jP (z9 (x8 Y7 (jQ 1 2)) Q7)))))) Q7)))
def wV:LD:=jJ 3 Zq Qd
def Ĩ:List Ba:=["_law_web_here","_law_row_here","_law_cell_here","_law_by","_law_other","_law_mine","_law_names","_law_named","_law_ties","_law_k","_law_less","_law_one","_law_two"]
def QN:EO:=
 J6 (i4 3 (d2 pJ (x8 K3 (z9 (y3 2) (z9 (dI 9907) (z9 (dI 31) Q7)))) (dI 15)))
 (J6 (i4 4 (x8 LC (jQ 1 3)))
 (J6 (jV (u0 (d2 kZ (lG (nS lO (b9 (y3 4)))) (lG (oM (jF 0 0)))))
 mM
 jZ)
 (J6 (jV (u0 (d2 kZ (x8 BS (kM 1)) (LI (y3 1))))
 mM
 jZ)
 (J6 (jV (vR (Q5 [none,some 4,some 1,some 3,some 0] (kF (jF 0 0)) (u4 0) (u0 (d2 kZ (i3 (b9 (y3 1)) (y3 0)) (i3 (b9 (y3 2)) (d2 oX (d2 jE (y3 0) (y3 3)) (jF 4 0))))) (y3 0)))
 mM
 jZ)
 (J6 (i4 5 (x8 sG (jQ 0 1)))
 (J6 (jV (qL (u0 (d2 kZ (i3 (b9 (x8 sG (jQ 0 4))) (dI 0)) (jF 5 0))) (u0 (d2 kZ (x8 sG (z9 (y3 0) (z9 (x8 BS (kM 1)) Q7))) (y3 5))))
 mM
 jZ)
 (J6 (i4 6 (x8 zD (z9 (d2 vO (y3 2) (dI 5)) (z9 (jF 0 0) Q7))))
 (J6 (i4 7 (x8 JU (jQ 0 6)))
 (J6 (i4 8 (lG (Q5 [none,none,some 6] (b9 (jF 0 1)) (nK 2 (Z9 (u4 0) (Z9 (u4 1) (nJ)))) lH (lR (nS lO (m7 (z9 (i3 (b9 (y3 2)) (y3 0)) (z9 (i3 (b9 (y3 2)) (y3 1)) Q7))))))))
 (J6 (jV (u0 (d2 kZ (y3 7) (jP (z9 (jF 0 0) (z9 (lR (nS lO (b9 (y3 8)))) Q7)))))
 mM
 jZ)
 (J6 (jV (u0 (d2 kZ (x8 sG (z9 (y3 7) (z9 (lR (Q5 [none,some 6] (b9 (y3 1)) (u4 0) lH (i3 (b9 (y3 1)) (y3 0)))) Q7))) (y3 5)))
 mM
 jZ)
 (J6 (lB (kF (kE (b9 (jF 0 1)))) (u4 9)
 (J6 (i4 10 (x8 DT (jQ 0 9)))
 (J6 (yD (i3 (b9 (jF 0 1)) (y3 9)) (nK 2 (Z9 (u4 11) (Z9 (u4 12) (nJ)))))
 (J6 (jV (qL (u0 (d2 kZ (y3 10) (jP (z9 (jF 0 0) (z9 (d2 jE (l5 (jF 0 1) (nE) (mH (y3 9))) (l5 (jF 0 1) (mH (d2 jE (y3 9) (dI 1))) (nE))) Q7))))) (u0 (d2 kZ (x8 wV (lK 10 12 11)) (y3 0))))
 mM
 jZ)
 (J6 (jV (u0 (d2 kZ (x8 wV (lK 0 11 12)) (y3 0)))
 mM
 jZ)
 (jV (vR (Q5 [none,some 5,some 10,some 1] (b9 (jP (z9 (dI 0) (z9 (dI 1) Q7)))) (u4 0) (rJ (u0 (qS rN rN (d2 pJ (i3 (b9 (y3 1)) (y3 0)) (dI 1)) (i3 (b9 (x8 sG (jQ 2 3))) (y3 0)) (i3 (b9 (y3 1)) (y3 0))))) (y3 0)))
 mM
 jZ))))))
 (i9 (dC (.bl true)))))))))))))))
def DK:LD:=jJ 3 Ĩ QN
def Zn:List Ba:=["_law_script","_law_k"]
def DD:EO:=
 J6 (jV (u0 (d2 oU (y3 1) (kE (b9 (y3 0)))))
 (i9 (i3 (b9 (y3 0)) (y3 1)))
 jZ)
 (i9 (dI 0))
def uA:LD:=jJ 2 Zn DD
def v0S:List Ba:=["many","ties","one"]
def v0I:EO:=
 J6 (nL 1 (m7 Q7))
 (J6 (lB (kF (y3 0)) (u4 2)
 (o6 1 (Q5 [none,some 2] (sM (d2 jE (y3 2) (dI 1)) (y3 0)) (u4 0) lH (jP (jQ 1 0)))))
 (i9 (jP (z9 (y3 0) (z9 (lR (kK 1)) Q7)))))
def ET:LD:=jJ 1 v0S v0I
def Zk:List Ba:=["web","one","other"]
def ZU:EO:=i9 (kN false (x8 Y7 (jQ 1 2)) (b9 (jF 0 1)))
def GM:LD:=jJ 3 Zk ZU
def Ħ:List Ba:=["web","one","other","rest"]
def ĵ:EO:=
 J6 (i4 3 (lG (Q5 [none,some 1,some 2] (kF (jF 0 0)) (u4 0) (u0 (kN true (y3 0) (b9 (jP (jQ 1 2))))) (y3 0))))
 (i9 (MR (Q5 [none,some 0,some 1,some 2] (b9 (y3 3)) (u4 0) lH (d2 lY (x8 GM (lK 1 2 0)) (x8 GM (lK 1 3 0))))))
def QC:LD:=jJ 3 Ħ ĵ
def WR:List Ba:=["web","place"]
def Xd:EO:=i9 (xP (Q5 [none,some 0,some 1] (kF (jF 0 0)) (u4 0) (u0 (x8 QC (lK 1 2 0))) (y3 0)))
def OF:LD:=jJ 2 WR Xd
def Wi:List Ba:=["web","begin","spots","behind","place","spans"]
def Wp:EO:=
 J6 (qG 2 (KL QB (kM 1)))
 (J6 (i4 3 (kE (b9 (y3 1))))
 (J6 (lB (kF (jF 0 0)) (u4 4)
 (uP 2 (y3 4) (y3 3)))
 (J6 (i4 5 (lG (Q5 [none,some 2] (b9 (jF 0 1)) (u4 0) lH (rH 1 (x8 CO (jQ 1 0))))))
 (i9 (jP (z9 (d2 jE (y3 3) (dI 1)) (z9 (lR (vE (Q5 [none,some 3] (b9 (y3 5)) (u4 0) (u0 (d2 oU (jF 0 0) (y3 1))) (y3 0)))) Q7)))))))
def NV:LD:=jJ 2 Wi Wp
def XH:List Ba:=["web","kind","many","begin","known"]
def XO:EO:=
 J6 (i4 4 (x8 NV (jQ 0 3)))
 (i9 (d2 rN (x8 Q0 (z9 (x8 Y8 (z9 (y3 4) (z9 (LJ (jF 4 0)) (kM 1)))) Q7)) (y3 2)))
def OP:LD:=jJ 4 XH XO
def XM:List Ba:=["alike","begin","tried","place","first"]
def XQ:EO:=
 J6 (qG 2 (λ_=>some ([],[])))
 (J6 (lB (xO (y3 0)) (nK 2 (Z9 (u4 3) (Z9 (u4 4) (nJ))))
 (jV (u0 (kN true (y3 3) (b9 (y3 1))))
 (uP 2 (y3 4) (y3 3))
 jZ))
 (λY=>(i9 (lG (xQ (y3 2)))) (frz 2 Y)))
def OQ:LD:=jJ 2 XM XQ
def NW:List Ba:=["web","kind","many","alike","begin","place","found"]
def Wo(Fr:LD):EO:=
 J6 (jV (rJ (u0 (x8 OP (dV4 0 1 2 4))))
 (i9 (dC .non))
 jZ)
 (J6 (jV (u0 (d2 lY (kE (b9 (y3 4))) (jF 0 0)))
 (i9 (y3 4))
 jZ)
 (J6 (lB (b9 (x8 OQ (jQ 3 4))) (u4 5)
 (J6 (i4 6 (x8 Fr (z9 (y3 0) (z9 (y3 1) (z9 (y3 2) (z9 (y3 3) (z9 (d2 jE (y3 4) (jP (kM 5))) Q7)))))))
 (jV (u0 (d2 yE (y3 6) (dC .non)))
 (i9 (y3 6))
 jZ)))
 (i9 (dC .non))))
def DR:Nat->List D->Option D
 | 0=>jJ 5 NW (λ_=>none)
 |k+1=>jJ 5 NW (Wo (DR k))
def Zl:List Ba:=["web","kind","begin","alike","many","found"]
def ZV:EO:=
 J6 (i4 2 (yM (u0 (d2 lY (y3 1) (dC (.str "pile")))) (jP (z9 (dI 0) Q7)) (jP Q7)))
 (J6 (i4 3 (lG (Q5 [none,some 0] (kF (jF 0 0)) (u4 0) lH (x8 OF (jQ 1 0)))))
 (J6 (i4 4 (dI 0))
 (J6 (i4 5 (x8 (DR 8) (Vv 0 1 4 3 2)))
 (J6 (oG 200 (u0 (d2 yL (y3 5) (dC .non)))
 (J6 (vN 4 (dI 1))
 (i4 5 (x8 (DR 8) (Vv 0 1 4 3 2)))))
 (i9 (y3 5))))))
def P0:LD:=jJ 2 Zl ZV
def WT:List Ba:=["web","kind"]
def Xe:EO:=i9 (x8 Q0 (z9 (x8 Y8 (z9 (y3 0) (z9 (x8 P0 (jQ 0 1)) (kM 1)))) Q7))
def W8:LD:=jJ 2 WT Xe
def Ī:List Ba:=["many"]
def VQ:EO:=i9 (jP (z9 (y3 0) (z9 (lR (nS lO (Q5 [none,some 0] (kF (y3 0)) (u4 0) lH (x8 Y7 (z9 (y3 0) (z9 (d2 oX (d2 jE (y3 0) (dI 1)) (y3 1)) Q7)))))) Q7)))
def QD:LD:=jJ 1 Ī VQ
def ÿ:List Ba:=["one","other","ties","place"]
def ϕ:EO:=
 J6 (nL 2 (m7 Q7))
 (J6 (lB (kF (y3 0)) (u4 3)
 (o6 2 (Q5 [none,some 3,some 0] (kF (y3 1)) (u4 0) lH (jP (z9 (y3 1) (z9 (d2 jE (y3 2) (y3 0)) Q7))))))
 (i9 (jP (z9 (d2 jE (y3 0) (y3 1)) (z9 (lR (kK 2)) Q7)))))
def uY:LD:=jJ 2 ÿ ϕ
def v2K:List Ba:=["_law_script","_law_cell_here","_law_web_here","_law_many_here","_law_every","_law_k","_law_ties","_law_one","_law_two","_law_piles"]
def MA:EO:=
 J6 (lB (b9 (l5 (y3 0) (nE) (mH (dI 2)))) (u4 1)
 (J6 (i4 2 (x8 CN (z9 (y3 1) (z9 (dI 6) (z9 (dI 9) Q7)))))
 (jV (rJ (u0 (x8 DK (z9 (y3 2) (z9 (x8 zD (z9 (d2 vO (y3 1) (dI 3)) (z9 (jF 2 0) Q7))) (z9 (d2 vO (y3 1) (dI 7)) Q7))))))
 mM
 jZ)))
 (J6 (i4 3 (d2 jE (dI 2) (x8 K3 (z9 (x8 uA (z9 (y3 0) (z9 (dI 2) Q7))) (z9 (dI 9901) (z9 (dI 3) Q7))))))
 (J6 (nL 4 (m7 Q7))
 (J6 (lB (kF (y3 3)) (u4 5)
 (o6 4 (Q5 [none,some 5] (kF (y3 5)) (u4 0) lH (jP (jQ 0 1)))))
 (J6 (jV (u0 (d2 kZ (x8 ET (kM 3)) (jP (z9 (y3 3) (z9 (lR (nS lO (kK 4))) Q7)))))
 mM
 jZ)
 (J6 (jV (qL (u0 (d2 kZ (x8 W8 (z9 (x8 ET (kM 3)) (z9 (dC (.str "pile")) Q7))) (i3 (m7 (z9 (dI 1) (z9 (dI 1) (z9 (dI 2) Q7)))) (d2 pJ (y3 3) (dI 2))))) (u0 (d2 kZ (x8 W8 (z9 (x8 ET (kM 3)) (z9 (dC (.str "queue")) Q7))) (d2 vO (y3 3) (dI 2)))))
 mM
 jZ)
 (J6 (jV (u0 (d2 BC (y3 3) (dI 2)))
 (J6 (i4 2 (x8 QD (kM 3)))
 (J6 (nL 6 (LP (Q5 [none] (kF (d2 pJ (y3 3) (dI 1))) (u4 0) lH (jP (z9 (y3 0) (z9 (d2 jE (y3 0) (dI 1)) Q7)))) (m7 (z9 (jP (z9 (dI 0) (z9 (d2 pJ (y3 3) (dI 1)) Q7))) Q7))))
 (J6 (jV (u0 (d2 kZ (y3 2) (jP (z9 (y3 3) (z9 (lR (nS lO (kK 6))) Q7)))))
 mM
 jZ)
 (jV (qL (u0 (d2 kZ (x8 W8 (z9 (y3 2) (z9 (dC (.str "pile")) Q7))) (dI 1))) (u0 (d2 kZ (x8 W8 (z9 (y3 2) (z9 (dC (.str "queue")) Q7))) (dI 1))))
 mM
 jZ))))
 jZ)
 (J6 (i4 7 (d2 jE (dI 1) (x8 K3 (z9 (x8 uA (z9 (y3 0) (z9 (dI 3) Q7))) (z9 (dI 9887) (z9 (dI 2) Q7))))))
 (J6 (i4 8 (d2 jE (dI 1) (x8 K3 (z9 (x8 uA (z9 (y3 0) (z9 (dI 3) Q7))) (z9 (dI 9883) (z9 (dI 3) Q7))))))
 (J6 (nL 6 (m7 Q7))
 (J6 (lB (kF (y3 7)) (u4 5)
 (o6 6 (Q5 [none,some 5,some 7] (kF (y3 8)) (u4 0) lH (jP (z9 (y3 1) (z9 (d2 jE (y3 2) (y3 0)) Q7))))))
 (J6 (jV (u0 (d2 kZ (x8 uY (jQ 7 8)) (jP (z9 (d2 jE (y3 7) (y3 8)) (z9 (lR (kK 6)) Q7)))))
 mM
 jZ)
 (J6 (i4 9 (d2 jE (dI 1) (x8 BD (z9 (yC (d2 lY (y3 7) (dI 2)) (d2 lY (y3 8) (dI 3))) Q7))))
 (i9 (yC (d2 lY (x8 W8 (z9 (x8 uY (jQ 7 8)) (z9 (dC (.str "pile")) Q7))) (y3 9)) (d2 lY (x8 W8 (z9 (x8 uY (jQ 7 8)) (z9 (dC (.str "queue")) Q7))) (dI 1))))))))))))))))
def xM:LD:=jJ 1 v2K MA
structure jS(K:A5)(w:Ce)(mg:Ba->Option A9):Prop where
 d_law_mix:b8 K mg "_law_mix" YK
 d_law_web:b8 K mg "_law_web" YM
 d_law_row:b8 K mg "_law_row" YL
 d_moved:b8 K mg "moved" ç
 d_turned:b8 K mg "turned" Ε
 d_spots_of:b8 K mg "spots_of" Qv
 d_rising_pair:b8 K mg "rising_pair" Xm
 d_span_of:b8 K mg "span_of" YO
 d_spans_of:b8 K mg "spans_of" Đ
 d_how_spans_lie:b8 K mg "how_spans_lie" XV
 d_do_spans_clash:b8 K mg "do_spans_clash" VG
 d_clashes:b8 K mg "clashes" YI
 d_rivals_of:b8 K mg "rivals_of" V4
 d_taken_by_rivals:b8 K mg "taken_by_rivals" VI
 d_queue_pages:kU K mg "queue_pages" Xl
 d_ties_over:kU K mg "ties_over" V6
 d_longest_chain:b8 K mg "longest_chain" XW
 d_greatest:b8 K mg "greatest" č
 d_group_around:b8 K mg "group_around" XF
 d_groups_of:b8 K mg "groups_of" V2
 d_page_count:b8 K mg "page_count" WD
 d_hardest_tie:kU K mg "hardest_tie" Xj
 d_pages_to_try:b8 K mg "pages_to_try" XG
 d_with_page:b8 K mg "with_page" V7
 d_laid_on:b8 K mg "laid_on" YJ
 d_pile_pages:b8 K mg "pile_pages" WE
 d_numbered_as_they_come:b8 K mg "numbered_as_they_come" VM
 d_fewest_pages:b8 K mg "fewest_pages" XE
 d_law_many:b8 K mg "_law_many" ď
 d_renamed:b8 K mg "renamed" YN
 d_without_tie:b8 K mg "without_tie" Xn
 d_with_tie:b8 K mg "with_tie" đ
 d_law_right:b8 K mg "_law_right" V3
 d_law_cell:b8 K mg "_law_cell" Ď
 d_full:b8 K mg "full" Ţ
 d_are_tied:b8 K mg "are_tied" ċ
 d_are_alike:b8 K mg "are_alike" VZ
 d_first_alike:b8 K mg "first_alike" Xi
 d_web_so_far:b8 K mg "web_so_far" WG
 d_can_be_within:b8 K mg "can_be_within" XU
 d_places_to_try:b8 K mg "places_to_try" XX
 d_row_within:b8 K mg "row_within" WF
 d_best_row:b8 K mg "best_row" Č
 d_least_pages:b8 K mg "least_pages" Xk
 d_round_web:b8 K mg "round_web" V5
 d_halves:b8 K mg "halves" Δ
 d_law:b8 K mg "law" TX
 x_bm:pF K mg
 b_all:mg "all" = none
 b_dict:mg "dict" = none
 b_enumerate:mg "enumerate" = none
 b_int:mg "int" = none
 b_len:mg "len" = none
 b_list:mg "list" = none
 b_max:mg "max" = none
 b_min:mg "min" = none
 b_range:mg "range" = none
 b_reversed:mg "reversed" = none
 b_set:mg "set" = none
 b_sorted:mg "sorted" = none
 b_tuple:mg "tuple" = none
 x_CLASHING:∃a,mg "CLASHING" = some (.ref a)/\MN K w a [("pile","cross"),("queue","within")]
section
variable{pr:Bs}{w:Ce}{K:A5}{mg:Ba->Option A9}{base:Ch}{x:Ba}{st:Dl}{N ps:List Ba}{k n:Nat}{g:EO}
def jX(G:b8 K mg x st) (ap:∀(f:As) (ah:A9) (A:Bz) (outer:List O7) (s:Ae) (H:Hp) (E:XK) (hr:d8 k (A.deeper (Du x (u5 st) s.heap.objs.size f ah))),(A.deeper (Du x (u5 st) s.heap.objs.size f ah)).units+64<D8->(A.deeper (Du x (u5 st) s.heap.objs.size f ah)).units<D8->N.Nodup ->
   ZB (oQ mG pr w K mg base N x (u5 st) f ah A outer s H E).nox (l9 st) g) (S:jD N ps (u5 st):=by exact⟨rfl,rfl,rfl,‹_›,rfl,‹_›,‹_›⟩) (hb:∀(kV az pm:A9) (an:Option As) (ah ct:A9) (us:List A9),us.length=ps.length->Gu (E3 x x (pQ st) (l9 st) (u5 st) .none kV az pm an ah ct) ⟨us,[]⟩=Ci (ps.zip us):=by first|exact λ_ _ _ _ _ _=>U8 _ λ_ _ _=>rfl|exact λ_ _ _ _ _ _=>U7 _ λ_ _=>rfl|exact λ_ _ _ _ _ _=>U6 _ λ_=>rfl|exact λ_ _ _ _ _ _=>v3O _ λ_ _ _ _=>rfl|exact λ_ _ _ _ _ _=>v3N _ λ_ _ _ _ _=>rfl|exact λ_ _ _ _ _ _=>len6 _ λ_ _ _ _ _ _=>rfl) (hn:ps.length=n:=by rfl):jO pr w K mg base (k+1) x ps (jJ n N g):=
 v13 G S hb hn λf ah A outer s H E hr=>ap f ah A outer s H E hr hr.units hr.units0 S.nd
def ND(G:kU K mg x st) (ap:∀(f:As) (ah:A9) (A:Bz) (outer:List O7) (s:Ae) (H:Hp) (E:XK),qI K ah x=true->∀(hr:d8 k (A.deeper (Du x (u5 st) s.heap.objs.size f ah))),(A.deeper (Du x (u5 st) s.heap.objs.size f ah)).units+64<D8->(A.deeper (Du x (u5 st) s.heap.objs.size f ah)).units<D8->N.Nodup ->
   ZB (oQ mG pr w K mg base N x (u5 st) f ah A outer s H E).nox (l9 st) g) (S:jD N ps (u5 st):=by exact⟨rfl,rfl,rfl,‹_›,rfl,‹_›,‹_›⟩) (hb:∀(kV az pm:A9) (an:Option As) (ah ct:A9) (us:List A9),us.length=ps.length->Gu (E3 x x (pQ st) (l9 st) (u5 st) .none kV az pm an ah ct) ⟨us,[]⟩=Ci (ps.zip us):=by first|exact λ_ _ _ _ _ _=>U8 _ λ_ _ _=>rfl|exact λ_ _ _ _ _ _=>U7 _ λ_ _=>rfl) (hn:ps.length=n:=by rfl):jO pr w K mg base (k+1) x ps (jJ n N g):=
 ů G S hb hn λf ah A outer s H E hl hr=>ap f ah A outer s H E hl hr hr.units hr.units0 S.nd
def Vy(G:rW K x x st f fd)(S:jD N ps (u5 st))(hn:ps.length=n) (ap:∀(ah:A9) (A:Bz) (outer:List O7) (s:Ae) (H:Hp) (E:XK) (hr:d8 k (A.deeper (Du x (u5 st) s.heap.objs.size f ah))),(A.deeper (Du x (u5 st) s.heap.objs.size f ah)).units+64<D8->(A.deeper (Du x (u5 st) s.heap.objs.size f ah)).units<D8->N.Nodup ->
   ZB (oQ mG pr w K mg base N x (u5 st) f ah A outer s H E).nox (l9 st) g):kD pr w K mg base mG (k+1) f fd ps (sV K (jJ n N g)):=
 Rn G S (λds d e=>by
  unfold jJ at e;split at e
  .rename_i h;rw[h,hn]
  .cases e) (λds d e=>by
  unfold jJ at e;split at e
  .exact e
  .cases e) λah A outer s H E hr=>(ap ah A outer s H E hr hr.units hr.units0 S.nd).h
def st_mk{od an:Option As}{sl:Array (Option A9)}{oc kV dc pm cd ct:A9}(X:K.In h)(G:h.Ns D9 mg)(a:Jd K D9 x=some (some (.ref f)))(l:K.lookup f=some ⟨oc,od,.func (E3 x x (pQ st) (l9 st) (u5 st) .none kV dc pm an cd ct),sl⟩)(c:Iy K cd x=true)(k:Fh K (.ref f)=true):b8 K mg x st:=
 ⟨_,_,Ub l c k,Nn X G a⟩
def stL_mk{od an:Option As}{sl:Array (Option A9)}{oc kV dc pm cd ct:A9}(X:K.In h)(G:h.Ns D9 mg)(a:Jd K D9 x=some (some (.ref f)))(l:K.lookup f=some ⟨oc,od,.func (E3 x x (pQ st) (l9 st) (u5 st) .none kV dc pm an cd ct),sl⟩)(c:Iy K cd x=true)(k:Fh K (.ref f)=true)(m:qI K cd x=true):kU K mg x st:=
 ⟨_,_,Ub l c k,Nn X G a,m⟩
end
section
variable{P:Bs}{w:Ce}{K:A5}{mg:Ba->Option A9}{base:Ch}
def sI(T:jS K w mg):jO P w K mg base 1 "_law_mix" ["_law_cell_here","_law_prime","_law_many_here"] K3:=jX T.d_law_mix λ_ _ _ _ _ _ _ hr hu aA nd=>y9 (v6 (wK (wK (ES (a8 0) y4) (a8 1)) (a8 2)))
def Ą(T:jS K w mg):jO P w K mg base 2 "_law_web" ["_law_cell_here","_law_most","_law_ties"] CN:=
 jX T.d_law_web λ_ _ _ _ _ _ _ hr hu aA nd=>z7 (g9 (i:=3) (Q2 y4 (v5 (sI T) hr (z6 (a8 0) (z6 y4 (z6 (a8 1) z8))))) nd)
   (z7 (Z7 (vK (Sd (xL aA (a8 3) y4) (Tx (Sb (wK (a8 0) y4) y4))))
   (y9 (g9 (i:=3) (a8 1) nd))
   Q4)
   (z7 (qC (i:=4) (pR z8) nd)
   (z7 (mC Bm rfl (Y2 T.b_range (v5 (sI T) hr (z6 (a8 0) (z6 y4 (z6 (Q2 (a8 2) y4) z8))))) (w8 (i:=5) nd)
   (z7 (g9 (i:=6) (v5 (sI T) hr (z6 (Q2 (a8 0) (ES y4 (a8 5))) (z6 y4 (z6 (a8 3) z8)))) nd)
   (z7 (g9 (i:=7) (v5 (sI T) hr (z6 (Q2 (Q2 (a8 0) (ES y4 (a8 5))) y4) (z6 y4 (z6 (a8 3) z8)))) nd)
   (z7 (g9 (i:=8) (K4 (z6 (JS rfl T.b_min (a8 6) (a8 7)) (z6 (Ts rfl T.b_max (a8 6) (a8 7)) z8))) nd)
   (y9 (Z7 (vK (Sd (mW hu (a8 6) (a8 7)) (Tx (wM hu (a8 8) (oW 4)))))
   (y9 (IZ (i:=4) (a8 8)))
   Q4))))))
   (y9 (v6 (K4 (z6 (a8 3) (z6 (W2 T.b_tuple (nF (sJ T.b_sorted (oW 4)))) z8))))))))
def Qo(T:jS K w mg):jO P w K mg base 2 "_law_row" ["_law_cell_here","_law_many_here"] zD:=
 jX T.d_law_row λ_ _ _ _ _ _ _ hr hu aA nd=>z7 (qC (i:=2) (HH rfl T.b_list T.b_range (a8 1)) nd)
   (y9 (WN T.b_tuple (Ze ["_law_k","_law_left","_law_cell_here","_law_many_here"] [none,some 2,some 0,some 1] rfl (Y2 T.b_range (a8 1)) (λnd _ _ _ _ _=>w8 (i:=0) nd) (λ_ _ _ _ _=>Za (i:=1) (v5 (sI T) hr (z6 (Q2 (a8 2) (ES y4 (a8 0))) (z6 y4 (z6 (uW (a8 3) (a8 0)) z8))))))))
def ϧ(T:jS K w mg):jO P w K mg base 1 "moved" ["row","by"] LC:=
 jX T.d_moved λ_ _ _ _ _ _ _ hr hu aA nd=>z7 (g9 (i:=2) (wK (a8 1) (nY T.b_len (j4 (a8 0)))) nd)
   (y9 (v6 (Q2 (R9 (a8 0) (vC (a8 2)) vB) (R9 (a8 0) vB (vC (a8 2))))))
def PD(T:jS K w mg):jO P w K mg base 1 "turned" ["row"] BS:=jX T.d_turned λ_ _ _ _ _ _ _ hr hu aA nd=>y9 (v6 (õ (a8 0) (IY y4)))
def Wy(T:jS K w mg):NQ P w K mg base 1 "spots_of" ["row"] QB:=by
 have S:jD GP ["row"] (u5 Qv):=⟨rfl,rfl,rfl,‹_›,rfl,‹_›,‹_›⟩;have nd:=S.nd
 exact v12 T.d_spots_of S (λ_ _ _ _ _ _=>U6 _ λ_=>rfl) rfl λ_ _ _ _ _ _ _ hr=>have hu:=hr.units;have aA:=hr.units0;Tv (sD (i:=1) sB nd).h
   (Tv (mC Bm rfl (CM T.b_enumerate (a8 0)) (uX rfl (oO (w8 (i:=2) nd) (oO (w8 (i:=3) nd) vA)))
   (y9 (yP (i:=1) hu (a8 3) (a8 2)))).h
   (ù 1))
def VW(T:jS K w mg):jO P w K mg base 1 "spots_of" ["row"] GN:=
 jX T.d_spots_of λ_ _ _ _ _ _ _ hr hu aA nd=>z7 (sD (i:=1) sB nd)
   (z7 (mC Bm rfl (CM T.b_enumerate (a8 0)) (uX rfl (oO (w8 (i:=2) nd) (oO (w8 (i:=3) nd) vA)))
   (y9 (yP (i:=1) hu (a8 3) (a8 2))))
   (y9 (tU 1 (v6 (a8 1)))))
def zQ(T:jS K w mg):jO P w K mg base 1 "rising_pair" ["one","other"] Y7:=jX T.d_rising_pair λ_ _ _ _ _ _ _ hr hu aA nd=>y9 (v6 (K4 (z6 (JS rfl T.b_min (a8 0) (a8 1)) (z6 (Ts rfl T.b_max (a8 0) (a8 1)) z8))))
def Qp(T:jS K w mg):jO P w K mg base 2 "span_of" ["spots","tie"] CO:=jX T.d_span_of λ_ _ _ _ _ _ _ hr hu aA nd=>y9 (v6 (v5 (zQ T) hr (z6 (zB hu (a8 0) (u8 (j4 (a8 1)) y4)) (z6 (zB hu (a8 0) (u8 (j4 (a8 1)) y4)) z8))))
def HF(T:jS K w mg):jO P w K mg base 3 "spans_of" ["web","row"] zG:=
 jX T.d_spans_of λ_ _ _ _ _ _ _ hr hu aA nd=>z7 (g9 (i:=2) (v5 (VW T) hr (z6 (a8 1) z8)) nd)
   (y9 (v6 (p6 (K9 ["tie","spots"] [none,some 2] rfl (Y0 (W3 (u8 (j4 (a8 0)) y4))) (λnd _ _ _ _ _=>w8 (i:=0) nd) (λ_ _ _ _ _=>nC) (λ_ _ _ _ _=>v5 (Qp T) hr (z6 (a8 1) (z6 (a8 0) z8)))))))
def VD(T:jS K w mg):jO P w K mg base 1 "how_spans_lie" ["one","other"] HY:=
 jX T.d_how_spans_lie λ_ _ _ _ _ _ _ hr hu aA nd=>z7 (Z7 (vK (AB (UW hu (u8 (j4 (a8 0)) y4) (j4 (a8 1))) (yR (UW hu (u8 (j4 (a8 0)) y4) (j4 (a8 1))))))
   (y9 (v6 oK))
   Q4)
   (z7 (g9 (i:=2) (Τ rfl hu T.b_min (a8 0) (a8 1)) nd)
   (z7 (g9 (i:=3) (Ρ rfl hu T.b_max (a8 0) (a8 1)) nd)
   (z7 (Z7 (xL aA (u8 (j4 (a8 2)) y4) (u8 (j4 (a8 3)) y4))
   (y9 (v6 oK))
   Q4)
   (y9 (v6 (UV (xL aA (u8 (j4 (a8 2)) y4) (u8 (j4 (a8 3)) y4)) oK oK))))))
def OV(T:jS K w mg):jO P w K mg base 2 "do_spans_clash" ["one","other","kind"] Q9:=by obtain⟨gn,cv,cx⟩:=T.x_CLASHING;exact jX T.d_do_spans_clash λ_ _ _ _ _ _ _ hr hu aA nd=>y9 (v6 (xK hu (v5 (VD T) hr (z6 (a8 0) (z6 (a8 1) z8))) (Ο cv cx (a8 2))))
def ă(T:jS K w mg):jO P w K mg base 4 "clashes" ["web","row","kind"] zC:=
 jX T.d_clashes λ_ _ _ _ _ _ _ hr hu aA nd=>z7 (g9 (i:=3) (v5 (HF T) hr (z6 (a8 0) (z6 (a8 1) z8))) nd)
   (z7 (qC (i:=4) (pR z8) nd)
   (z7 (mC Bm rfl (CM T.b_enumerate (a8 3)) (uX rfl (oO (w8 (i:=5) nd) (oO (w8 (i:=6) nd) vA)))
   (z7 (t9 (i:=7) ["other","span","spans","kind"] [none,some 6,some 3,some 2] rfl (Y0 (Tu T.b_range (Q2 (a8 5) y4) (nY T.b_len (j4 (a8 3))))) (λnd _ _ _ _ _=>w8 (i:=0) nd) (λ_ _ _ _ _=>pP (yQ (v5 (OV T) hr (z6 (a8 1) (z6 (u8 (j4 (a8 2)) (a8 0)) (z6 (a8 3) z8)))))) (λ_ _ _ _ _=>a8 0) nd)
   (y9 (wL (i:=4) (K9 ["other","one"] [none,some 5] rfl (Y0 (W3 (a8 7))) (λnd _ _ _ _ _=>w8 (i:=0) nd) (λ_ _ _ _ _=>nC) (λ_ _ _ _ _=>K4 (z6 (a8 1) (z6 (a8 0) z8))))))))
   (y9 (v6 (W2 T.b_tuple (oW 4))))))
def Wu(T:jS K w mg):jO P w K mg base 5 "rivals_of" ["web","row","kind"] HA:=jX T.d_rivals_of λ_ _ _ _ _ _ _ hr hu aA nd=>Zf (ir:=3) (i1:=4) (i2:=5) rfl Bm (W3 (u8 (j4 (a8 0)) y4)) (W3 (v5 (ă T) hr (z6 (a8 0) (z6 (a8 1) (z6 (a8 2) z8))))) nd (A1:=(RP rfl (.inl rfl) ∅ ∅ rfl (.inl rfl) ∅ ∅ rfl (.inl rfl) ∅ ∅)) (A2:=(RP rfl (.inl rfl) ∅ ∅ rfl (.inl rfl) ∅ ∅ rfl (.inl rfl) ∅ ∅))
def IE(T:jS K w mg):jO P w K mg base 1 "taken_by_rivals" ["rivals","pages","tie"] J8:=jX T.d_taken_by_rivals λ_ _ _ _ _ _ _ hr hu aA nd=>y9 (v6 (p6 (K9 ["rival","pages"] [none,some 1] rfl (Y0 (W3 (u8 (j4 (a8 0)) (a8 2)))) (λnd _ _ _ _ _=>w8 (i:=0) nd) (λ_ _ _ _ _=>pP (ü hu (a8 0) (a8 1))) (λ_ _ _ _ _=>zB hu (a8 1) (a8 0)))))
def XC(T:jS K w mg):jO P w K mg base 4 "queue_pages" ["web","row","rivals"] DS:=
 ND T.d_queue_pages λ_ _ _ _ _ _ _ hl hr hu aA nd=>z7 (g9 (i:=3) (v5 (HF T) hr (z6 (a8 0) (z6 (a8 1) z8))) nd)
   (z7 (sD (i:=4) sB nd)
   (z7 (mC Bm rfl (W3 (p6 (Ģ (k:=0) ["k","spans"] [none,some 3] rfl T.b_sorted T.b_range T.x_bm hl (hr.mono ∅) (nY T.b_len (j4 (a8 3))) (λ_ _ _ _ _ _ hr=>have hu:=hr.units;have aA:=hr.units0;u8 (j4 (a8 1)) (a8 0))))) (w8 (i:=5) nd)
   (z7 (g9 (i:=6) (JR 4 (v5 (IE T) hr (z6 (a8 2) (z6 (a8 4) (z6 (a8 5) z8))))) nd)
   (y9 (yP (i:=4) hu (a8 5) (Tt rfl T.b_min (yA (K9 ["page","taken"] [none,some 6] rfl (Y0 (Y2 T.b_range (Q2 (nY T.b_len (j4 (a8 6))) y4))) (λnd _ _ _ _ _=>w8 (i:=0) nd) (λ_ _ _ _ _=>pP (wM hu (a8 0) (j4 (a8 1)))) (λ_ _ _ _ _=>a8 0))))))))
   (y9 (tU 4 (v6 (a8 4))))))
def Ww(T:jS K w mg):jO P w K mg base 4 "ties_over" ["spans","gap"] DL:=
 ND T.d_ties_over λ_ _ _ _ _ _ _ hl hr hu aA nd=>z7 (t9 (i:=2) ["tie","spans","gap"] [none,some 0,some 1] rfl (Y0 (Y2 T.b_range (nY T.b_len (j4 (a8 0))))) (λnd _ _ _ _ _=>w8 (i:=0) nd) (λ_ _ _ _ _=>pP (PZ FI vM TD vM (u8 (j4 (u8 (j4 (a8 1)) (a8 0))) y4) (a8 2) (u8 (j4 (u8 (j4 (a8 1)) (a8 0))) y4))) (λ_ _ _ _ _=>a8 0) nd)
   (y9 (v6 (p6 (Zc (k:=0) ["tie","spans"] [none,some 0] T.b_sorted T.x_bm hl (hr.mono ∅) (j4 (a8 2)) (λ_ _ _ _ _ _ hr=>have hu:=hr.units;have aA:=hr.units0;u8 (j4 (a8 1)) (a8 0))))))
def VE(T:jS K w mg):jO P w K mg base 3 "longest_chain" ["spans","ties","kind"] DV:=
 jX T.d_longest_chain λ_ _ _ _ _ _ _ hr hu aA nd=>z7 (qC (i:=3) (pR z8) nd)
   (z7 (mC Bm rfl (W3 (a8 1)) (w8 (i:=4) nd)
   (z7 (t9 (i:=5) ["chain","spans","tie","kind"] [none,some 0,some 4,some 2] rfl (Υ 3) (λnd _ _ _ _ _=>w8 (i:=0) nd) (λ_ _ _ _ _=>pP (yQ (v5 (OV T) hr (z6 (u8 (j4 (a8 1)) (u8 (j4 (a8 0)) (IY y4))) (z6 (u8 (j4 (a8 1)) (a8 2)) (z6 (a8 3) z8)))))) (λ_ _ _ _ _=>a8 0) nd)
   (y9 (IZ (i:=3) (Q2 (QA rfl T.b_max T.b_len (j4 (a8 5)) (K4 z8)) (K4 (z6 (a8 4) z8)))))))
   (y9 (v6 (QA rfl T.b_max T.b_len (oW 3) (K4 z8)))))
def VV(T:jS K w mg):jO P w K mg base 5 "greatest" ["web","row","kind"] DA:=
 jX T.d_greatest λ_ _ _ _ _ _ _ hr hu aA nd=>z7 (g9 (i:=3) (v5 (HF T) hr (z6 (a8 0) (z6 (a8 1) z8))) nd)
   (z7 (g9 (i:=4) (K4 z8) nd)
   (z7 (mC Bm rfl (Y2 T.b_range (uW (u8 (j4 (a8 0)) y4) y4)) (w8 (i:=5) nd)
   (y9 (g9 (i:=4) (V9 rfl T.b_max T.b_len (a8 4) (v5 (VE T) hr (z6 (a8 3) (z6 (v5 (Ww T) hr (z6 (a8 3) (z6 (a8 5) z8))) (z6 (a8 2) z8))))) nd)))
   (y9 (v6 (W2 T.b_tuple (nF (sJ T.b_sorted (j4 (a8 4)))))))))
def XS(T:jS K w mg):jO P w K mg base 1 "group_around" ["rivals","tie"] DU:=
 jX T.d_group_around λ_ _ _ _ _ _ _ hr hu aA nd=>z7 (qC (i:=2) (pR (z6 (a8 1) z8)) nd)
   (z7 (g9 (i:=3) y4 nd)
   (z7 (GL 200 Bm (xL aA (a8 3) (nY T.b_len (oW 2)))
   (z7 (wL (i:=2) (K9 ["rival","group"] [none,some 2] rfl (Y0 (W3 (u8 (j4 (a8 0)) (u8 (oW 2) (a8 3))))) (λnd _ _ _ _ _=>w8 (i:=0) nd) (λ_ _ _ _ _=>pP (wM hu (a8 0) (oW 1))) (λ_ _ _ _ _=>a8 0)))
   (y9 (JT (i:=3) y4 nd))))
   (y9 (tU 2 (v6 (a8 2))))))
def Ws(T:jS K w mg):jO P w K mg base 2 "groups_of" ["rivals"] GZ:=
 jX T.d_groups_of λ_ _ _ _ _ _ _ hr hu aA nd=>z7 (qC (i:=1) (pR z8) nd)
   (z7 (sD (i:=2) sB nd)
   (z7 (mC Bm rfl (Y2 T.b_range (nY T.b_len (j4 (a8 0)))) (w8 (i:=3) nd)
   (y9 (Z7 (Zg 2 hu (a8 3))
   (z7 (IZ (i:=1) (v5 (XS T) hr (z6 (a8 0) (z6 (a8 3) z8))))
   (y9 (mC Bm rfl (W3 (u8 (oW 1) (IY y4))) (w8 (i:=4) nd)
   (y9 (yP (i:=2) hu (a8 4) nD)))))
   Q4)))
   (y9 (tU 1 (v6 (a8 1))))))
def zO(T:jS K w mg):jO P w K mg base 1 "page_count" ["pages"] Q0:=jX T.d_page_count λ_ _ _ _ _ _ _ hr hu aA nd=>y9 (v6 (Ğ rfl T.b_len T.b_set (j4 (a8 0))))
def XB(T:jS K w mg):jO P w K mg base 5 "hardest_tie" ["rivals","group","pages"] HL:=
 ND T.d_hardest_tie λ_ _ _ _ _ _ _ hl hr hu aA nd=>z7 (t9 (i:=3) ["tie","pages"] [none,some 2] rfl (Y0 (W3 (a8 1))) (λnd _ _ _ _ _=>w8 (i:=0) nd) (λ_ _ _ _ _=>pP (Χ hu (a8 0) (a8 1))) (λ_ _ _ _ _=>a8 0) nd)
   (y9 (v6 (ğ (k:=1) ["tie","rivals","pages"] [none,some 0,some 2] rfl T.b_max T.x_bm hl (hr.mono ∅) (j4 (a8 3)) (λ_ _ _ _ _ _ hr=>have hu:=hr.units;have aA:=hr.units0;K4 (z6 (v5 (zO T) hr (z6 (v5 (IE T) hr (z6 (a8 1) (z6 (a8 2) (z6 (a8 0) z8)))) z8)) (z6 (nY T.b_len (j4 (u8 (j4 (a8 1)) (a8 0)))) z8))))))
def XT(T:jS K w mg):jO P w K mg base 2 "pages_to_try" ["pages","many"] zP:=jX T.d_pages_to_try λ_ _ _ _ _ _ _ hr hu aA nd=>y9 (v6 (p6 (HH rfl T.b_list T.b_range (JS rfl T.b_min (a8 1) (Q2 (v5 (zO T) hr (z6 (p6 (OD rfl T.b_list (a8 0))) z8)) y4)))))
def Wx(T:jS K w mg):jO P w K mg base 1 "with_page" ["pages","tie","page"] zL:=
 jX T.d_with_page λ_ _ _ _ _ _ _ hr hu aA nd=>z7 (sD (i:=3) (Zd T.b_dict (a8 0)) nd)
   (z7 (yP (i:=3) hu (a8 1) (a8 2))
   (y9 (tU 3 (v6 (a8 3)))))
theorem GU(T:jS K w mg):∀n:Nat,jO P w K mg base (5+1+n) "laid_on" ["rivals","group","pages","many"] (Z6 n)
 | 0=>jX (k:=5) T.d_laid_on (λ_ _ _ _ _ _ _ _ _ _ _=>Sa)
 |n+1=>by
  have R:=GU T n
  have hj:5<=5+1+n:=by omega
  exact jX (k:=5+1+n) T.d_laid_on λ_ _ _ _ _ _ _ hr hu aA nd=>z7 (Z7 (FC hu (Tr T.b_len (a8 2)) (nY T.b_len (j4 (a8 1))))
   (y9 (v6 (a8 2)))
   Q4)
   (z7 (g9 (i:=4) (v5 (XB T) hr (z6 (a8 0) (z6 (a8 1) (z6 (a8 2) z8))) (hjk:=by omega)) nd)
   (z7 (g9 (i:=5) (v5 (IE T) hr (z6 (a8 0) (z6 (a8 2) (z6 (a8 4) z8))) (hjk:=by omega)) nd)
   (z7 (mC Bm rfl (W3 (v5 (XT T) hr (z6 (a8 2) (z6 (a8 3) z8)) (hjk:=by omega))) (w8 (i:=6) nd)
   (y9 (Z7 (wM hu (a8 6) (j4 (a8 5)))
   (z7 (g9 (i:=7) (v5 R hr (z6 (a8 0) (z6 (a8 1) (z6 (v5 (Wx T) hr (z6 (a8 2) (z6 (a8 4) (z6 (a8 6) z8))) (hjk:=by omega)) (z6 (a8 3) z8)))) (hjk:=by omega)) nd)
   (y9 (Z7 (Sc (a8 7) uV)
   (y9 (v6 (a8 7)))
   Q4)))
   Q4)))
   (y9 (v6 uV)))))
def Xg(T:jS K w mg):jO P w K mg base 19 "pile_pages" ["rivals","many"] DQ:=
 jX T.d_pile_pages λ_ _ _ _ _ _ _ hr hu aA nd=>z7 (sD (i:=2) sB nd)
   (z7 (mC Bm rfl (W3 (v5 (Ws T) hr (z6 (a8 0) z8))) (w8 (i:=3) nd)
   (z7 (g9 (i:=4) (v5 (GU T 12) hr (z6 (a8 0) (z6 (a8 3) (z6 (UU sB) (z6 (a8 1) z8))))) nd)
   (z7 (GL 200 Bm (UX (a8 4) uV)
   (z7 (JT (i:=1) y4 nd)
   (y9 (g9 (i:=4) (v5 (GU T 12) hr (z6 (a8 0) (z6 (a8 3) (z6 (UU sB) (z6 (a8 1) z8))))) nd))))
   (y9 (û (i:=2) (a8 4))))))
   (y9 (tU 2 (v6 (a8 2)))))
def VN(T:jS K w mg):jO P w K mg base 1 "numbered_as_they_come" ["pages"] IF:=
 jX T.d_numbered_as_they_come λ_ _ _ _ _ _ _ hr hu aA nd=>z7 (sD (i:=1) sB nd)
   (z7 (mC Bm rfl (W3 (a8 0)) (w8 (i:=2) nd)
   (y9 (GY (i:=1) (a8 2) (JR 1 (Tr T.b_len (a8 1))))))
   (y9 (tU 1 (v6 (W2 T.b_tuple (nF (K9 ["page","numbers"] [none,some 1] rfl (Y0 (W3 (a8 0))) (λnd _ _ _ _ _=>w8 (i:=0) nd) (λ_ _ _ _ _=>nC) (λ_ _ _ _ _=>zB hu (a8 1) (a8 0)))))))))
def IB(T:jS K w mg):jO P w K mg base 20 "fewest_pages" ["web","row","kind"] Y8:=
 jX T.d_fewest_pages λ_ _ _ _ _ _ _ hr hu aA nd=>z7 (g9 (i:=3) (v5 (Wu T) hr (z6 (a8 0) (z6 (a8 1) (z6 (a8 2) z8)))) nd)
   (z7 (Z7 (FC hu (a8 2) oK)
   (y9 (g9 (i:=4) (v5 (XC T) hr (z6 (a8 0) (z6 (a8 1) (z6 (a8 3) z8)))) nd))
   (y9 (g9 (i:=4) (v5 (Xg T) hr (z6 (a8 3) (z6 (nY T.b_len (j4 (v5 (VV T) hr (z6 (a8 0) (z6 (a8 1) (z6 (a8 2) z8)))))) z8))) nd)))
   (y9 (v6 (v5 (VN T) hr (z6 (p6 (K9 ["tie","pages"] [none,some 4] rfl (Y0 (Y2 T.b_range (nY T.b_len (j4 (a8 3))))) (λnd _ _ _ _ _=>w8 (i:=0) nd) (λ_ _ _ _ _=>nC) (λ_ _ _ _ _=>zB hu (a8 1) (a8 0)))) z8)))))
def zM(T:jS K w mg):jO P w K mg base 21 "_law_many" ["_law_web_here","_law_row_here"] sG:=jX T.d_law_many λ_ _ _ _ _ _ _ hr hu aA nd=>y9 (v6 (p6 (K9 ["_law_kind","_law_web_here","_law_row_here"] [none,some 0,some 1] rfl (Y0 (W3 (K4 (z6 oK (z6 oK z8))))) (λnd _ _ _ _ _=>w8 (i:=0) nd) (λ_ _ _ _ _=>nC) (λ_ _ _ _ _=>v5 (zO T) hr (z6 (v5 (IB T) hr (z6 (a8 1) (z6 (a8 2) (z6 (a8 0) z8)))) z8)))))
def ą(T:jS K w mg):jO P w K mg base 2 "renamed" ["web","names"] JU:=jX T.d_renamed λ_ _ _ _ _ _ _ hr hu aA nd=>y9 (v6 (K4 (z6 (u8 (j4 (a8 0)) y4) (z6 (W2 T.b_tuple (nF (sJ T.b_sorted (nF (K9 ["one","other","names"] [none,none,some 1] rfl (Y0 (W3 (u8 (j4 (a8 0)) y4))) (λnd _ _ _ _ _=>uX rfl (oO (w8 (i:=0) nd) (oO (w8 (i:=1) nd) vA))) (λ_ _ _ _ _=>nC) (λ_ _ _ _ _=>v5 (zQ T) hr (z6 (u8 (j4 (a8 2)) (a8 0)) (z6 (u8 (j4 (a8 2)) (a8 1)) z8)))))))) z8))))
def XD(T:jS K w mg):jO P w K mg base 1 "without_tie" ["web","tie"] DT:=jX T.d_without_tie λ_ _ _ _ _ _ _ hr hu aA nd=>y9 (v6 (K4 (z6 (u8 (j4 (a8 0)) y4) (z6 (Q2 (AA (u8 (j4 (a8 0)) y4) vB (vC (a8 1))) (AA (u8 (j4 (a8 0)) y4) (vC (Q2 (a8 1) y4)) vB)) z8))))
def QS(T:jS K w mg):jO P w K mg base 2 "with_tie" ["web","one","other"] wV:=jX T.d_with_tie λ_ _ _ _ _ _ _ hr hu aA nd=>y9 (v6 (K4 (z6 (u8 (j4 (a8 0)) y4) (z6 (W2 T.b_tuple (nF (OE rfl hu T.b_sorted T.b_set (j4 (Q2 (u8 (j4 (a8 0)) y4) (K4 (z6 (v5 (zQ T) hr (z6 (a8 1) (z6 (a8 2) z8))) z8))))))) z8))))
def Wt(T:jS K w mg):jO P w K mg base 22 "_law_right" ["_law_web_here","_law_row_here","_law_cell_here"] DK:=
 jX T.d_law_right λ_ _ _ _ _ _ _ hr hu aA nd=>z7 (g9 (i:=3) (uW (v5 (sI T) hr (z6 (a8 2) (z6 y4 (z6 y4 z8)))) y4) nd)
   (z7 (g9 (i:=4) (v5 (ϧ T) hr (z6 (a8 1) (z6 (a8 3) z8))) nd)
   (z7 (Z7 (mW hu (p6 (sJ T.b_sorted (j4 (a8 4)))) (p6 (HH rfl T.b_list T.b_range (u8 (j4 (a8 0)) y4))))
   (y9 (v6 nD))
   Q4)
   (z7 (Z7 (mW hu (v5 (PD T) hr (z6 (a8 1) z8)) (Ġ rfl T.b_tuple T.b_reversed (a8 1)))
   (y9 (v6 nD))
   Q4)
   (z7 (Z7 (Tw (yA (K9 ["_law_k","_law_other","_law_row_here","_law_by","_law_web_here"] [none,some 4,some 1,some 3,some 0] rfl (Y0 (Y2 T.b_range (u8 (j4 (a8 0)) y4))) (λnd _ _ _ _ _=>w8 (i:=0) nd) (λ_ _ _ _ _=>pP (mW hu (u8 (j4 (a8 1)) (a8 0)) (u8 (j4 (a8 2)) (wK (Q2 (a8 0) (a8 3)) (u8 (j4 (a8 4)) y4))))) (λ_ _ _ _ _=>a8 0))))
   (y9 (v6 nD))
   Q4)
   (z7 (g9 (i:=5) (v5 (zM T) hr (z6 (a8 0) (z6 (a8 1) z8))) nd)
   (z7 (Z7 (vK (AB (mW hu (u8 (j4 (v5 (zM T) hr (z6 (a8 0) (z6 (a8 4) z8)))) y4) (u8 (j4 (a8 5)) y4)) (yR (mW hu (v5 (zM T) hr (z6 (a8 0) (z6 (v5 (PD T) hr (z6 (a8 1) z8)) z8))) (a8 5)))))
   (y9 (v6 nD))
   Q4)
   (z7 (g9 (i:=6) (v5 (Qo T) hr (z6 (ER (a8 2) y4) (z6 (u8 (j4 (a8 0)) y4) z8))) nd)
   (z7 (g9 (i:=7) (v5 (ą T) hr (z6 (a8 0) (z6 (a8 6) z8))) nd)
   (z7 (t9 (i:=8) ["_law_one","_law_two","_law_names"] [none,none,some 6] rfl (Y0 (W3 (u8 (j4 (a8 0)) y4))) (λnd _ _ _ _ _=>uX rfl (oO (w8 (i:=0) nd) (oO (w8 (i:=1) nd) vA))) (λ_ _ _ _ _=>nC) (λ_ _ _ _ _=>W2 T.b_tuple (nF (sJ T.b_sorted (nF (pR (z6 (u8 (j4 (a8 2)) (a8 0)) (z6 (u8 (j4 (a8 2)) (a8 1)) z8))))))) nd)
   (z7 (Z7 (mW hu (a8 7) (K4 (z6 (u8 (j4 (a8 0)) y4) (z6 (W2 T.b_tuple (nF (sJ T.b_sorted (j4 (a8 8))))) z8))))
   (y9 (v6 nD))
   Q4)
   (z7 (Z7 (mW hu (v5 (zM T) hr (z6 (a8 7) (z6 (W2 T.b_tuple (nF (K9 ["_law_place","_law_names"] [none,some 6] rfl (Y0 (W3 (a8 1))) (λnd _ _ _ _ _=>w8 (i:=0) nd) (λ_ _ _ _ _=>nC) (λ_ _ _ _ _=>u8 (j4 (a8 1)) (a8 0))))) z8))) (a8 5))
   (y9 (v6 nD))
   Q4)
   (z7 (mC Bm rfl (Y2 T.b_range (nY T.b_len (j4 (u8 (j4 (a8 0)) y4)))) (w8 (i:=9) nd)
   (z7 (g9 (i:=10) (v5 (XD T) hr (z6 (a8 0) (z6 (a8 9) z8))) nd)
   (z7 (ú (u8 (j4 (u8 (j4 (a8 0)) y4)) (a8 9)) (uX rfl (oO (w8 (i:=11) nd) (oO (w8 (i:=12) nd) vA))))
   (z7 (Z7 (vK (AB (mW hu (a8 10) (K4 (z6 (u8 (j4 (a8 0)) y4) (z6 (Q2 (AA (u8 (j4 (a8 0)) y4) vB (vC (a8 9))) (AA (u8 (j4 (a8 0)) y4) (vC (Q2 (a8 9) y4)) vB)) z8)))) (yR (mW hu (v5 (QS T) hr (z6 (a8 10) (z6 (a8 12) (z6 (a8 11) z8)))) (a8 0)))))
   (y9 (v6 nD))
   Q4)
   (z7 (Z7 (mW hu (v5 (QS T) hr (z6 (a8 0) (z6 (a8 11) (z6 (a8 12) z8)))) (a8 0))
   (y9 (v6 nD))
   Q4)
   (y9 (Z7 (Tw (yA (K9 ["_law_way","_law_mine","_law_less","_law_row_here"] [none,some 5,some 10,some 1] rfl (Y0 (W3 (K4 (z6 y4 (z6 y4 z8))))) (λnd _ _ _ _ _=>w8 (i:=0) nd) (λ_ _ _ _ _=>pP (JA (PZ FI vM FI vM (uW (u8 (j4 (a8 1)) (a8 0)) y4) (u8 (j4 (v5 (zM T) hr (z6 (a8 2) (z6 (a8 3) z8)))) (a8 0)) (u8 (j4 (a8 1)) (a8 0))))) (λ_ _ _ _ _=>a8 0))))
   (y9 (v6 nD))
   Q4)))))))
   (y9 (v6 nD))))))))))))))
def HE(T:jS K w mg):jO P w K mg base 1 "_law_cell" ["_law_script","_law_k"] uA:=
 jX T.d_law_cell λ_ _ _ _ _ _ _ hr hu aA nd=>z7 (Z7 (xL aA (a8 1) (nY T.b_len (j4 (a8 0))))
   (y9 (v6 (u8 (j4 (a8 0)) (a8 1))))
   Q4)
   (y9 (v6 y4))
def IK(T:jS K w mg):jO P w K mg base 1 "full" ["many"] ET:=
 jX T.d_full λ_ _ _ _ _ _ _ hr hu aA nd=>z7 (qC (i:=1) (pR z8) nd)
   (z7 (mC Bm rfl (Y2 T.b_range (a8 0)) (w8 (i:=2) nd)
   (y9 (wL (i:=1) (K9 ["other","one"] [none,some 2] rfl (Y0 (Tu T.b_range (Q2 (a8 2) y4) (a8 0))) (λnd _ _ _ _ _=>w8 (i:=0) nd) (λ_ _ _ _ _=>nC) (λ_ _ _ _ _=>K4 (z6 (a8 1) (z6 (a8 0) z8)))))))
   (y9 (v6 (K4 (z6 (a8 0) (z6 (W2 T.b_tuple (oW 1)) z8))))))
def QR(T:jS K w mg):jO P w K mg base 2 "are_tied" ["web","one","other"] GM:=jX T.d_are_tied λ_ _ _ _ _ _ _ hr hu aA nd=>y9 (v6 (Ű hu (v5 (zQ T) hr (z6 (a8 1) (z6 (a8 2) z8))) (j4 (u8 (j4 (a8 0)) y4))))
def Wr(T:jS K w mg):jO P w K mg base 3 "are_alike" ["web","one","other"] QC:=
 jX T.d_are_alike λ_ _ _ _ _ _ _ hr hu aA nd=>z7 (t9 (i:=3) ["place","one","other"] [none,some 1,some 2] rfl (Y0 (Y2 T.b_range (u8 (j4 (a8 0)) y4))) (λnd _ _ _ _ _=>w8 (i:=0) nd) (λ_ _ _ _ _=>pP (wM hu (a8 0) (j4 (K4 (z6 (a8 1) (z6 (a8 2) z8)))))) (λ_ _ _ _ _=>a8 0) nd)
   (y9 (v6 (ó rfl T.b_all (K9 ["place","web","one","other"] [none,some 0,some 1,some 2] rfl (Y0 (W3 (a8 3))) (λnd _ _ _ _ _=>w8 (i:=0) nd) (λ_ _ _ _ _=>nC) (λ_ _ _ _ _=>xK hu (v5 (QR T) hr (z6 (a8 1) (z6 (a8 2) (z6 (a8 0) z8)))) (v5 (QR T) hr (z6 (a8 1) (z6 (a8 3) (z6 (a8 0) z8)))))))))
def XA(T:jS K w mg):jO P w K mg base 4 "first_alike" ["web","place"] OF:=jX T.d_first_alike λ_ _ _ _ _ _ _ hr hu aA nd=>y9 (v6 (Tt rfl T.b_min (yA (K9 ["other","web","place"] [none,some 0,some 1] rfl (Y0 (Y2 T.b_range (u8 (j4 (a8 0)) y4))) (λnd _ _ _ _ _=>w8 (i:=0) nd) (λ_ _ _ _ _=>pP (yQ (v5 (Wr T) hr (z6 (a8 1) (z6 (a8 2) (z6 (a8 0) z8)))))) (λ_ _ _ _ _=>a8 0)))))
def Xh(T:jS K w mg):jO P w K mg base 3 "web_so_far" ["web","begin"] NV:=
 jX T.d_web_so_far λ_ _ _ _ _ _ _ hr hu aA nd=>z7 (sD (i:=2) (ø (Wy T) hr (z6 (a8 1) z8)) nd)
   (z7 (g9 (i:=3) (nY T.b_len (j4 (a8 1))) nd)
   (z7 (mC Bm rfl (Y2 T.b_range (u8 (j4 (a8 0)) y4)) (w8 (i:=4) nd)
   (y9 (GY (i:=2) (a8 4) (a8 3))))
   (z7 (t9 (i:=5) ["tie","spots"] [none,some 2] rfl (Y0 (W3 (u8 (j4 (a8 0)) y4))) (λnd _ _ _ _ _=>w8 (i:=0) nd) (λ_ _ _ _ _=>nC) (λ_ _ _ _ _=>JR 1 (v5 (Qp T) hr (z6 (a8 1) (z6 (a8 0) z8)))) nd)
   (y9 (v6 (K4 (z6 (Q2 (a8 3) y4) (z6 (W2 T.b_tuple (nF (OE rfl hu T.b_sorted T.b_set (nF (K9 ["span","behind"] [none,some 3] rfl (Y0 (W3 (a8 5))) (λnd _ _ _ _ _=>w8 (i:=0) nd) (λ_ _ _ _ _=>pP (xL aA (u8 (j4 (a8 0)) y4) (a8 1))) (λ_ _ _ _ _=>a8 0)))))) z8))))))))
def VC(T:jS K w mg):jO P w K mg base 21 "can_be_within" ["web","kind","many","begin"] OP:=
 jX T.d_can_be_within λ_ _ _ _ _ _ _ hr hu aA nd=>z7 (g9 (i:=4) (v5 (Xh T) hr (z6 (a8 0) (z6 (a8 3) z8))) nd)
   (y9 (v6 (ô (v5 (zO T) hr (z6 (v5 (IB T) hr (z6 (a8 4) (z6 (ġ rfl T.b_tuple T.b_range (u8 (j4 (a8 4)) y4)) (z6 (a8 1) z8)))) z8)) (a8 2))))
def VF(T:jS K w mg):jO P w K mg base 1 "places_to_try" ["alike","begin"] OQ:=
 jX T.d_places_to_try λ_ _ _ _ _ _ _ hr hu aA nd=>z7 (sD (i:=2) sB nd)
   (z7 (mC Bm rfl (CM T.b_enumerate (a8 0)) (uX rfl (oO (w8 (i:=3) nd) (oO (w8 (i:=4) nd) vA)))
   (y9 (Z7 (wM hu (a8 3) (j4 (a8 1)))
   (y9 (GY (i:=2) (a8 4) (a8 3)))
   Q4)))
   (y9 (tU 2 (v6 (p6 (OD rfl T.b_list (a8 2)))))))
theorem HS(T:jS K w mg):∀n:Nat,jO P w K mg base (21+1+n) "row_within" ["web","kind","many","alike","begin"] (DR n)
 | 0=>jX (k:=21) T.d_row_within (λ_ _ _ _ _ _ _ _ _ _ _=>Sa)
 |n+1=>by
  have R:=HS T n
  have hj:21<=21+1+n:=by omega
  exact jX (k:=21+1+n) T.d_row_within λ_ _ _ _ _ _ _ hr hu aA nd=>z7 (Z7 (JA (yQ (v5 (VC T) hr (z6 (a8 0) (z6 (a8 1) (z6 (a8 2) (z6 (a8 4) z8)))) (hjk:=by omega))))
   (y9 (v6 uV))
   Q4)
   (z7 (Z7 (FC hu (nY T.b_len (j4 (a8 4))) (u8 (j4 (a8 0)) y4))
   (y9 (v6 (a8 4)))
   Q4)
   (z7 (mC Bm rfl (W3 (v5 (VF T) hr (z6 (a8 3) (z6 (a8 4) z8)) (hjk:=by omega))) (w8 (i:=5) nd)
   (z7 (g9 (i:=6) (v5 R hr (z6 (a8 0) (z6 (a8 1) (z6 (a8 2) (z6 (a8 3) (z6 (Q2 (a8 4) (K4 (z6 (a8 5) z8))) z8))))) (hjk:=by omega)) nd)
   (y9 (Z7 (Sc (a8 6) uV)
   (y9 (v6 (a8 6)))
   Q4))))
   (y9 (v6 uV))))
def VU(T:jS K w mg):jO P w K mg base 31 "best_row" ["web","kind"] P0:=
 jX T.d_best_row λ_ _ _ _ _ _ _ hr hu aA nd=>z7 (g9 (i:=2) (UV (FC hu (a8 1) oK) (K4 (z6 y4 z8)) (K4 z8)) nd)
   (z7 (t9 (i:=3) ["place","web"] [none,some 0] rfl (Y0 (Y2 T.b_range (u8 (j4 (a8 0)) y4))) (λnd _ _ _ _ _=>w8 (i:=0) nd) (λ_ _ _ _ _=>nC) (λ_ _ _ _ _=>v5 (XA T) hr (z6 (a8 1) (z6 (a8 0) z8))) nd)
   (z7 (g9 (i:=4) y4 nd)
   (z7 (g9 (i:=5) (v5 (HS T 8) hr (z6 (a8 0) (z6 (a8 1) (z6 (a8 4) (z6 (a8 3) (z6 (a8 2) z8)))))) nd)
   (z7 (GL 200 Bm (UX (a8 5) uV)
   (z7 (JT (i:=4) y4 nd)
   (y9 (g9 (i:=5) (v5 (HS T 8) hr (z6 (a8 0) (z6 (a8 1) (z6 (a8 4) (z6 (a8 3) (z6 (a8 2) z8)))))) nd))))
   (y9 (v6 (a8 5)))))))
def wZ(T:jS K w mg):jO P w K mg base 32 "least_pages" ["web","kind"] W8:=jX T.d_least_pages λ_ _ _ _ _ _ _ hr hu aA nd=>y9 (v6 (v5 (zO T) hr (z6 (v5 (IB T) hr (z6 (a8 0) (z6 (v5 (VU T) hr (z6 (a8 0) (z6 (a8 1) z8))) (z6 (a8 1) z8)))) z8)))
def Wv(T:jS K w mg):jO P w K mg base 2 "round_web" ["many"] QD:=jX T.d_round_web λ_ _ _ _ _ _ _ hr hu aA nd=>y9 (v6 (K4 (z6 (a8 0) (z6 (W2 T.b_tuple (nF (sJ T.b_sorted (nF (K9 ["place","many"] [none,some 0] rfl (Y0 (Y2 T.b_range (a8 0))) (λnd _ _ _ _ _=>w8 (i:=0) nd) (λ_ _ _ _ _=>nC) (λ_ _ _ _ _=>v5 (zQ T) hr (z6 (a8 0) (z6 (wK (Q2 (a8 0) y4) (a8 1)) z8)))))))) z8))))
def KG(T:jS K w mg):jO P w K mg base 1 "halves" ["one","other"] uY:=
 jX T.d_halves λ_ _ _ _ _ _ _ hr hu aA nd=>z7 (qC (i:=2) (pR z8) nd)
   (z7 (mC Bm rfl (Y2 T.b_range (a8 0)) (w8 (i:=3) nd)
   (y9 (wL (i:=2) (K9 ["number","place","one"] [none,some 3,some 0] rfl (Y0 (Y2 T.b_range (a8 1))) (λnd _ _ _ _ _=>w8 (i:=0) nd) (λ_ _ _ _ _=>nC) (λ_ _ _ _ _=>K4 (z6 (a8 1) (z6 (Q2 (a8 2) (a8 0)) z8)))))))
   (y9 (v6 (K4 (z6 (Q2 (a8 0) (a8 1)) (z6 (W2 T.b_tuple (oW 2)) z8))))))
def v05(T:jS K w mg)(G:rW K "law" "law" TX f fd):kD P w K mg base mG 33 f fd ["_law_script"] (sV K xM):=
 Vy (k:=32) G ⟨rfl,rfl,rfl,‹_›,rfl,‹_›,‹_›⟩ rfl λ_ _ _ _ _ _ hr hu aA nd=>z7 (mC Bm rfl (W3 (AA (a8 0) vB (vC y4))) (w8 (i:=1) nd)
   (z7 (g9 (i:=2) (v5 (Ą T) hr (z6 (a8 1) (z6 y4 (z6 y4 z8)))) nd)
   (y9 (Z7 (JA (yQ (v5 (Wt T) hr (z6 (a8 2) (z6 (v5 (Qo T) hr (z6 (ER (a8 1) y4) (z6 (u8 (j4 (a8 2)) y4) z8))) (z6 (ER (a8 1) y4) z8))))))
   (y9 (v6 nD))
   Q4))))
   (z7 (g9 (i:=3) (Q2 y4 (v5 (sI T) hr (z6 (v5 (HE T) hr (z6 (a8 0) (z6 y4 z8))) (z6 y4 (z6 y4 z8))))) nd)
   (z7 (qC (i:=4) (pR z8) nd)
   (z7 (mC Bm rfl (Y2 T.b_range (a8 3)) (w8 (i:=5) nd)
   (y9 (wL (i:=4) (K9 ["_law_n","_law_k"] [none,some 5] rfl (Y0 (Y2 T.b_range (a8 5))) (λnd _ _ _ _ _=>w8 (i:=0) nd) (λ_ _ _ _ _=>nC) (λ_ _ _ _ _=>K4 (z6 (a8 0) (z6 (a8 1) z8)))))))
   (z7 (Z7 (mW hu (v5 (IK T) hr (z6 (a8 3) z8)) (K4 (z6 (a8 3) (z6 (W2 T.b_tuple (nF (sJ T.b_sorted (oW 4)))) z8))))
   (y9 (v6 nD))
   Q4)
   (z7 (Z7 (vK (AB (mW hu (v5 (wZ T) hr (z6 (v5 (IK T) hr (z6 (a8 3) z8)) (z6 oK z8))) (u8 (nF (pR (z6 y4 (z6 y4 (z6 y4 z8))))) (uW (a8 3) y4))) (yR (mW hu (v5 (wZ T) hr (z6 (v5 (IK T) hr (z6 (a8 3) z8)) (z6 oK z8))) (ER (a8 3) y4)))))
   (y9 (v6 nD))
   Q4)
   (z7 (Z7 (Sb (a8 3) y4)
   (z7 (g9 (i:=2) (v5 (Wv T) hr (z6 (a8 3) z8)) nd)
   (z7 (qC (i:=6) (ö (yA (K9 ["_law_k"] [none] rfl (Y0 (Y2 T.b_range (uW (a8 3) y4))) (λnd _ _ _ _ _=>w8 (i:=0) nd) (λ_ _ _ _ _=>nC) (λ_ _ _ _ _=>K4 (z6 (a8 0) (z6 (Q2 (a8 0) y4) z8))))) (yA (pR (z6 (K4 (z6 y4 (z6 (uW (a8 3) y4) z8))) z8)))) nd)
   (z7 (Z7 (mW hu (a8 2) (K4 (z6 (a8 3) (z6 (W2 T.b_tuple (nF (sJ T.b_sorted (oW 6)))) z8))))
   (y9 (v6 nD))
   Q4)
   (y9 (Z7 (vK (AB (mW hu (v5 (wZ T) hr (z6 (a8 2) (z6 oK z8))) y4) (yR (mW hu (v5 (wZ T) hr (z6 (a8 2) (z6 oK z8))) y4))))
   (y9 (v6 nD))
   Q4)))))
   Q4)
   (z7 (g9 (i:=7) (Q2 y4 (v5 (sI T) hr (z6 (v5 (HE T) hr (z6 (a8 0) (z6 y4 z8))) (z6 y4 (z6 y4 z8))))) nd)
   (z7 (g9 (i:=8) (Q2 y4 (v5 (sI T) hr (z6 (v5 (HE T) hr (z6 (a8 0) (z6 y4 z8))) (z6 y4 (z6 y4 z8))))) nd)
   (z7 (qC (i:=6) (pR z8) nd)
   (z7 (mC Bm rfl (Y2 T.b_range (a8 7)) (w8 (i:=5) nd)
   (y9 (wL (i:=6) (K9 ["_law_n","_law_k","_law_one"] [none,some 5,some 7] rfl (Y0 (Y2 T.b_range (a8 8))) (λnd _ _ _ _ _=>w8 (i:=0) nd) (λ_ _ _ _ _=>nC) (λ_ _ _ _ _=>K4 (z6 (a8 1) (z6 (Q2 (a8 2) (a8 0)) z8)))))))
   (z7 (Z7 (mW hu (v5 (KG T) hr (z6 (a8 7) (z6 (a8 8) z8))) (K4 (z6 (Q2 (a8 7) (a8 8)) (z6 (W2 T.b_tuple (oW 6)) z8))))
   (y9 (v6 nD))
   Q4)
   (z7 (g9 (i:=9) (Q2 y4 (Zb T.b_int (R5 (xK hu (a8 7) y4) (R8 (xK hu (a8 8) y4))))) nd)
   (y9 (v6 (R5 (xK hu (v5 (wZ T) hr (z6 (v5 (KG T) hr (z6 (a8 7) (z6 (a8 8) z8))) (z6 oK z8))) (a8 9)) (R8 (xK hu (v5 (wZ T) hr (z6 (v5 (KG T) hr (z6 (a8 7) (z6 (a8 8) z8))) (z6 oK z8))) y4)))))))))))))))))
end
def all_mk{l:Mu}{mg:Ba->Option A9}(hfa:mg "law" = some (.ref fa))(T:jS K w mg):
  ∃fd:Gt,(∀(s:Ae) (v:A9),Nx s fd ⟨[v],[]⟩ [("_law_script",v)])/\∀base:Ch,K.In base->base.Ns D9 mg->kD l.prog w K mg base mG 33 fa fd ["_law_script"] (sV K xM):=by
 obtain⟨f,fd,G,e⟩:=T.d_law.ex;cases hfa.symm.trans e;have G':=G;obtain⟨oc,od,kV,az,pm,an,ah,ct,dB,rfl,lk,aO⟩:=G.ex;exact⟨_,λs v=>.of_eq rfl,λbase _ _=>v05 T G'⟩
def tb_CLASHING{w:Ce}{K:A5}{t0 t1:Tok}(X:K.In h)(G:h.Ns D9 mg)(x:Jd K D9 "CLASHING" = some (some (.ref ta)))(y:K.lookup ta=some ⟨.type "dict",none,.dict te tn,#[]⟩)(k:PySem.W.KeysLit w.params te.toList)(v0:Jd K ta "pile" = some (some (.str "cross" t0)))(v1:Jd K ta "queue" = some (some (.str "within" t1))):∃a,mg "CLASHING" = some (.ref a)/\MN K w a [("pile","cross"),("queue","within")]:=
 ⟨_,Nn X G x,_,_,y,k,by
  intro kv hkv;simp only[Ac,Dg,or_false]at hkv;rcases hkv with rfl|rfl
  .exact⟨_,v0⟩
  .exact⟨_,v1⟩⟩
def walk{l:Mu}{q:Bs}{YP:Ce->Ch->Prop}{d:DefRec}{K:Params->A5}(hn:l.most=some 63)(jq:d.params.defaults=[])(hY:∀(w:Ce) (h:Ch),YP w h->(K w.params).In h)(hT:∀(w:Ce) (h:Ch),YP w h->∀P q,([(166,"hardest_tie"),(149,"queue_pages"),(110,"ties_over")]:List (As×Ba)).lookup P=some q->h.get? P=some { cls:=.none,data:=.fields #[] })(hK:∀w:Ce,uO (K w.params) [(166,"hardest_tie"),(149,"queue_pages"),(110,"ties_over")]=true)(hlaw:∀ns:List Int,ns.length<=63->xM [.lst (ns.map D.int)]=some (.bl true))
  (F:∀(w:Ce) (mg:Ba->Option A9) (fa:As) (h:Ch),(K w.params).In h->h.Ns D9 mg->mg d.name=some (.ref fa) ->
   ∃fd:Gt,(∀(s:Ae) (u:A9),Nx s fd ⟨[u],[]⟩ [("_law_script",u)])/\∀base:Ch,(K w.params).In base->base.Ns D9 mg->kD l.prog w (K w.params) mg base mG 33 fa fd ["_law_script"] (sV (K w.params) xM)):
  PySem.W.WalkO q loose XP YP l.row.toRowW d [] (λf vs=>Oq f vs):=
 Μ (n:=63) (k:=33) (x:="_law_script") (sp:=λw=>sV (K w.params) xM) [(166,"hardest_tie"),(149,"queue_pages"),(110,"ties_over")] hn ∅ jq ⟨rfl,∅,∅,rfl⟩ hY hT hK F (λw H a ns hl tb hS=>
  ⟨[],[.lst (ns.map D.int)],.bl true,⟨tb,λz hz=>u3 hz (by simp)⟩,J3.one (K6.mpr ⟨a,ns.map V.int,rfl,by rw[ϙ];exact hS,Y9.mpr rfl⟩),hlaw ns hl,λv H' _ hv=>Q3.mp hv⟩)
end P
namespace L3
open PySem L2
section
variable{Y Y':J5}{d e:D}{a b:Bool}{fa fb fc:ED}{ga gb:EB}{g k:EO}{fl gl:EL}{i:Nat}{o:Option Out}
def v9(h:g Y=some (.nx Y'))(h2:k Y'=o):J6 g k Y=o:=by unfold J6;rw[h];exact h2
def AF(h:g Y=some (.rt d)):J6 g k Y=some (.rt d):=by unfold J6;rw[h]
def nP{x:Option Out}{v:D}(h:x=some (.rt v)):lM x=some v:=by rw[h];rfl
def lU(h:fa Y=some d):i9 fa Y=some (.rt d):=by unfold i9;rw[h]
def Q8(h:fa Y=some d):i4 i fa Y=some (.nx (Y.set i (sC d))):=by unfold i4;rw[h]
def wC{ds:List D}(h:fl Y=some ds):nL i fl Y=some (.nx (Y.set i (some (.ow ds)))):=by unfold nL;rw[h]
def mI(h:ga Y=some a):jV ga g k Y=if a=true then g Y else k Y:=by unfold jV;rw[h];cases a<;>rfl
def W5(h:fa Y=some (.bl a)):u0 fa Y=some a:=by unfold u0;rw[h]
theorem Rh(h:ga Y=some a)(h2:a=true->gb Y=some b):qE ga gb Y=some (a&&b):=by
 unfold qE;rw[h];cases a with
 |true=>exact h2 rfl
 |false=>rfl
theorem KP(h:ga Y=some a)(h2:a=false->gb Y=some b):qL ga gb Y=some (a||b):=by
 unfold qL;rw[h];cases a with
 |true=>rfl
 |false=>exact h2 rfl
def Ri(h:ga Y=some a):rJ ga Y=some (!a):=by unfold rJ;rw[h];rfl
def v24(h:ga Y=some a):yM ga fa fb Y=if a=true then fa Y else fb Y:=by unfold yM;rw[h];cases a<;>rfl
def kP{x y:D}(h:fa Y=some x)(h2:fb Y=some y):d2 f fa fb Y=f x y:=by unfold d2;rw[h,h2]
theorem Sn{f f':D->D->Option D}{x y z:D}(h:fa Y=some x)(h2:fb Y=some y)(h3:f x y=some (.bl a))(h4:a=true->fc Y=some z)(h5:a=true->f' y z=some (.bl b)):qS f f' fa fb fc Y=some (.bl (a&&b)):=by
 unfold qS;rw[h,h2];right;rw[h3];cases a with
 |true=>right;rw[h4 rfl];exact h5 rfl
 |false=>rfl
def u7{ds:List D}(h:fa Y=some d)(h2:fl Y=some ds):z9 fa fl Y=some (d::ds):=by unfold z9;rw[h,h2]
def v8{ds:List D}(h:fl Y=some ds):x8 F fl Y=F ds:=by unfold x8;rw[h]
def nV{ds:List D}(h:fl Y=some ds)(h2:ds.length<=f8):jP fl Y=some (.tup ds):=by unfold jP;rw[h];right;rw[y6 h2]
def zT{ds:List D}(h:fl Y=some ds)(h2:ds.length<=f8):m7 fl Y=some ds:=by unfold m7;rw[h];right;rw[y6 h2]
def oE{ds:List D}(h:fl Y=some ds):lG fl Y=some (.lst ds):=by unfold lG;rw[h];rfl
def p7{ds:List D}(h:fl Y=some ds):kE fl Y=some (.int ds.length):=by unfold kE;rw[h];rfl
def qV{ds:List D}(h:fl Y=some ds):lR fl Y=some (.tup ds):=by unfold lR;rw[h];rfl
def rZ(h:fa Y=some (.tup ds)):b9 fa Y=some ds:=by unfold b9;rw[h]
def nU(h:fa Y=some (.lst ds)):b9 fa Y=some ds:=by unfold b9;rw[h]
def lN{ds:List D}(h:fl Y=some ds)(h2:fa Y=some (.int j)):i3 fl fa Y=lL ds j:=by unfold i3;rw[h,h2]
def xS{ds:List D}(h:fl Y=some ds):nS F fl Y=F ds:=by unfold nS;rw[h]
def FG{ds:List D}(h:fa Y=some d)(h2:fl Y=some ds)(h3:lT ds<=jY)(h4:depth d<=jY):kN dq fa fl Y=some (.bl (if dq=true then !oA d ds else oA d ds)):=by unfold kN;rw[h,h2];right;rw[y6 ⟨h3,h4⟩]
def KO{ds:List D}(h:kK i Y=some ds)(h2:fa Y=some d)(h3:ds.length<f8):qK i fa Y=some (.nx (Y.set i (some (.ow (ds++[d]))))):=by unfold qK;rw[h,h2];right;rw[y6 h3]
def T7{ds es:List D}(h:kK i Y=some ds)(h2:fl Y=some es)(h3:ds.length+es.length<=f8):o6 i fl Y=some (.nx (Y.set i (some (.ow (ds++es))))):=by unfold o6;rw[h,h2];right;rw[y6 h3]
def oZ{ds:List D}(e:fl Y=some ds):lB fl h g Y=kR h g ds Y:=by unfold lB;rw[e]
def nM{ds:List D}(e:fl Y=some ds)(hl:ds.length<=f8):Q5 cap fl h ga fa Y=nB h ga fa (mD cap Y) ds:=by unfold Q5;rw[e];right;rw[y6 hl]
def ϔ{ds:List D}(e:fl Y=some ds)(hl:ds.length<=f8):zR cap fl h fe Y=r8 h fe (mD cap Y) ds:=by unfold zR;rw[e];right;rw[y6 hl]
def T8{x:D}{lo hi:Option Int}{fo fh:J5->Option (Option Int)}(h:fa Y=some x)(h1:fo Y=some lo)(h2:fh Y=some hi):l5 fa fo fh Y=GB x lo hi:=by unfold l5;rw[h,h1,h2]
def Rj(h:fa Y=some (.int j)):mH fa Y=some (some j):=by unfold mH;rw[h]
def AE(h:fa Y=some (.int j))(h2:nG j=true):kF fa Y=some (Q6 0 j.toNat):=by unfold kF;rw[h];right;rw[y6 h2]
def Ż{i j:Int}(h:fa Y=some (.int i))(h':fb Y=some (.int j))(h1:nG i=true)(h2:nG j=true):sM fa fb Y=some (Q6 i (j-i).toNat):=by unfold sM;rw[h,h'];right;rw[y6 ⟨h1,h2⟩]
def DC(h:fa Y=some (.int j))(h1 : -(2 ^ 62)<=j)(h2:j<=100000):oM fa Y=some ((kB 0 j.toNat).map D.int):=by unfold oM;rw[h];right;rw[y6 ⟨h1,h2⟩]
end
theorem vG{h:D->J5->Option J5}{fe:ED}(I:J5->Prop)(y:D->D):∀(ds:List D) (Y:J5),I Y->(∀d∈ds,∀Y,I Y->∃Y1,h d Y=some Y1/\I Y1/\fe Y1=some (y d))->nB h lH fe Y ds=some (ds.map y)
 | [],_,_,_=>rfl
 |d::ds,Y,hI,hs=>by obtain⟨Y1,e1,I1,e2⟩:=hs d A6 Y hI;unfold nB;rw[e1];dsimp only[lH];rw[e2];right;rw[vG I y ds Y1 I1 λd hd=>hs d (A7 _ hd)];rfl
theorem W6{h:D->J5->Option J5}{ft:EB}{fe:ED}(I:J5->Prop)(t:D->Bool)(y:D->D):∀(ds:List D) (Y:J5),I Y->(∀d∈ds,∀Y,I Y->∃Y1,h d Y=some Y1/\I Y1/\ft Y1=some (t d)/\(t d=true->fe Y1=some (y d)))->nB h ft fe Y ds=some ((ds.filter t).map y)
 | [],_,_,_=>rfl
 |d::ds,Y,hI,hs=>by
  obtain⟨Y1,e1,I1,e2,e3⟩:=hs d A6 Y hI;have ih:=W6 I t y ds Y1 I1 λd hd=>hs d (A7 _ hd);unfold nB;rw[e1];right;rw[e2]
  cases ht:t d with
  |true=>right;rw[e3 ht,List.filter_cons_of_pos ht];right;rw[ih];rfl
  |false=>
   right;rw[List.filter_cons_of_neg (by rw[ht];simp)]
   exact ih
theorem RC{h:D->J5->Option J5}{g:EO}(I:List D->J5->Prop){all:List D}(hs:∀pre d post Y,pre++d::post=all->I pre Y->∃Y1 Y2,h d Y=some Y1/\(g Y1=some (.nx Y2)\/g Y1=some (.ct Y2))/\I (pre++[d]) Y2):
  ∀(ds pre:List D) (Y:J5),pre++ds=all->I pre Y->∃Y',kR h g ds Y=some (.nx Y')/\I all Y'
 | [],pre,Y,e,hI=>⟨Y,rfl,by rw[<-e,Cr];exact hI⟩
 |d::ds,pre,Y,e,hI=>by
  obtain⟨Y1,Y2,e1,e2,I2⟩:=hs pre d ds Y e hI;obtain⟨Y',e3,I3⟩:=RC I hs ds (pre++[d]) Y2 (by rw[<-e];simp) I2
  refine⟨Y',?_,I3⟩;unfold kR;rw[e1];right;rcases e2 with e2|e2<;>(rw[e2];exact e3)
def yW{h:D->J5->Option J5}{g:EO}(I:List D->J5->Prop){ds:List D}(h0:I [] Y)(hs:∀pre d post Y,pre++d::post=ds->I pre Y->∃Y1 Y2,h d Y=some Y1/\(g Y1=some (.nx Y2)\/g Y1=some (.ct Y2))/\I (pre++[d]) Y2):
  ∃Y',kR h g ds Y=some (.nx Y')/\I ds Y':=RC I hs ds [] Y rfl h0
def SN{h:D->J5->Option J5}{g:EO}(I:J5->Prop){ds:List D}(h0:I Y)(hs:∀d∈ds,∀Y,I Y->∃Y1 Y2,h d Y=some Y1/\(g Y1=some (.nx Y2)\/g Y1=some (.ct Y2))/\I Y2):
  ∃Y',kR h g ds Y=some (.nx Y')/\I Y':=yW (λ_ Y=>I Y) h0 λpre d post Y e hI=>hs d (by rw[<-e];simp) Y hI
end L3
namespace P
open PySem L2 L3
def X7{n k:Nat}(h:k<n):(Q6 0 n)[k]?=some (.int (k:Int)):=by unfold Q6;rw[Ao,F8 h];simp
def vF(lo:Int)(n:Nat):(Q6 lo n).length=n:=by unfold Q6;simp
def Pk{d:D}(h:d∈Q6 0 n):∃k:Nat,k<n/\d = .int (k:Int):=by unfold Q6 at h;obtain⟨k,hk,rfl⟩:=Aq.mp h;exact⟨k,Am.mp hk,by simp⟩
def mL(c p m:Int):Int:=c*48271 % p % m
def Ĺ(c:Int)(h:uT k=true):oR (.int c) (.int k)=some (.int (c*k)):=by unfold oR FE uL;right;rw[y6 (by rw[h,Bool.or_true])]
def RD(c:Int)(h:uT k=true):oR (.int k) (.int c)=some (.int (k*c)):=by unfold oR FE uL;right;rw[y6 (by rw[h,O1])]
def zX(c:Int){k:Int}(h:0<k):oX (.int c) (.int k)=some (.int (c % k)):=by unfold oX uL;right;rw[y6 (Y1 h)]
def vI(c:Int){p m:Int}(hp:0<p)(hm:0<m):K3 [.int c,.int p,.int m]=some (.int (mL c p m)):=by
 show lM (i9 _ _)=_;rw[lU (d:=.int (mL c p m))]
 .rfl
 .exact(kP (x:=.int (c*48271 % p)) (y:=.int m) ((kP (x:=.int (c*48271)) (y:=.int p) ((kP (x:=.int c) (y:=.int 48271) rfl rfl).trans (Ĺ c ∅)) rfl).trans (zX _ hp)) rfl).trans (zX _ hm)
def xF(c p:Int){m:Int}(h:0<m):0<=mL c p m:=Int.emod_nonneg _ ⋯
def xE(c p:Int){m:Int}(h:0<m):mL c p m<m:=Lc _ h
abbrev d3:=Int×Int
def j8(t:d3):D:=.tup [.int t.1,.int t.2]
def ŵ(s t:d3):kG (j8 s) (j8 t)=decide (s=t):=by
 show (s.1==t.1&&(s.2==t.2&&true))=_;rw[Bool.and_true];obtain⟨a,b⟩:=s;obtain⟨c,d⟩:=t;by_cases h1:a=c
 .by_cases h2:b=d
  .subst h1 h2;simp
  .have:¬((a,b)=(c,d)):=λz=>h2 (Kf z).2
   rw[W4 this];simp[h2]
 .have:¬((a,b)=(c,d)):=λz=>h1 (Kf z).1
  rw[W4 this];simp[h1]
theorem Rs(t:d3):∀ts:List d3,oA (j8 t) (ts.map j8)=decide (t∈ts)
 | []=>by simp[oA]
 |s::ts=>by
  have ih:=Rs t ts;unfold oA at ih ⊢;rw[Ai,Fc,ih,ŵ];by_cases h:s=t
  .subst h;simp
  .have h':¬t=s:=λz=>h z.symm;simp[h,h']
def Pj(t:d3):depth (j8 t)=1:=by unfold j8;simp[depth,lT]
theorem HC:∀ts:List d3,lT (ts.map j8)<=1
 | []=>by rw[Go,lT];omega
 |t::ts=>by
  have:=HC ts
  have h2:=Pj t;rw[Ai,lT];omega
def jM(s t:d3):Prop:=s.1<t.1\/(s.1=t.1/\s.2<t.2)
instance (s t:d3):Decidable (jM s t):=inferInstanceAs (Decidable (_\/_))
def wF(s t:d3):HT.lexLt [s.1,s.2] [t.1,t.2]=decide (jM s t):=by
 have av:HT.lexLt [s.1,s.2] [t.1,t.2]=true↔jM s t:=by
  rw[HT.lexLt_cons];unfold jM;by_cases h1:s.1=t.1
  .rw[y6 h1,HT.lexLt_cons];by_cases h2:s.2=t.2
   .rw[y6 h2,HT.lexLt_nil_nil];exact⟨λz=>u3 z ∅,λz=>u3 z ⋯⟩
   .rw[y8 h2,decide_eq_true_iff];omega
  .rw[y8 h1,decide_eq_true_iff];omega
 by_cases h:jM s t
 .rw[Y1 h];exact av.mpr h
 .rw[W4 h];exact Bool.eq_false_iff.mpr λz=>h (av.mp z)
def uU(s:d3):¬jM s s:=by unfold jM;omega
def PU(h:jM s t)(h':jM t u):jM s u:=by unfold jM at *;omega
def CZ(s t:d3):jM s t\/s=t\/jM t s:=by
 obtain⟨a,b⟩:=s;obtain⟨c,d⟩:=t;unfold jM;right;by_cases h:a=c
 .by_cases h2:b=d
  .subst h h2;exact .inr (.inl rfl)
  .omega
 .omega
def lQ(t:d3):List Int:=[t.1,t.2]
def AX(ns:List Int):d3:=(ns.getD 0 0,ns.getD 1 0)
def mO(ts:List d3):List d3:=(sO (ts.map lQ)).map AX
def Ti(ts:List d3):sO (ts.map lQ)=(mO ts).map lQ:=by
 unfold mO;rw[B2]
 have:∀ns∈sO (ts.map lQ),(lQ∘AX) ns=ns:=λns h=>by have h':=(zJ (ts.map lQ)).mem_iff.mp h;obtain⟨t,_,rfl⟩:=Aq.mp h';rfl
 exact((B6 this).trans (Lj _)).symm
def rD(ts:List d3):(mO ts).Perm ts:=by
 have h:=(zJ (ts.map lQ)).map AX
 have e:(ts.map lQ).map AX=ts:=by rw[B2];exact(B6 (λt _=>rfl:∀t∈ts,(AX∘lQ) t=t)).trans (Lj _)
 rw[e]at h;exact h
def CK(ts:List d3)(hn:ts.Nodup):(mO ts).Pairwise jM:=by
 have h:=CL (ts.map lQ);rw[Ti,Bu]at h;have bB:(mO ts).Nodup:=(rD ts).nodup_iff.mpr hn
 have:=h.and bB
 refine this.imp λ{s t} q=>?_;obtain⟨q1,q2⟩:=q
 have:decide (jM t s)=false:=(wF t s).symm.trans q1
 have n1:=qJ this;rcases CZ s t with z|z|z
 .exact z
 .exact u3 z q2
 .exact u3 z n1
theorem DH{ts:List d3}(h:ts.length<64):lO (ts.map j8)=some ((mO ts).map j8):=by
 unfold lO;rw[y6 (by rw[A3];exact h)]
 cases ts with
 |nil=>rfl
 |cons t ts=>
  have e1:lJ ((t::ts).map j8)=none:=rfl
  have e2:mP ((t::ts).map j8)=some ((t::ts).map lQ):=by
   have:=DJ (nss:=(t::ts).map lQ) (λns h=>by
    obtain⟨u,_,rfl⟩:=Aq.mp h
    simp[lQ])
   rw[B2]at this;exact this
  rw[e1];right;rw[e2];right;rw[Ti,B2];rfl
structure BO(n:Int)(ts:List d3):Prop where
 lo:1<=n
 hi:n<=6
 up:ts.Pairwise jM
 ok:∀t∈ts,0<=t.1/\t.1<t.2/\t.2<n
def d9(n:Int)(ts:List d3):D:=.tup [.int n,.tup (ts.map j8)]
def KZ(a b:Int):rP [.int a,.int b]=some (.int (Mw a b)):=by
 show some (D.int (if b<a then b else a))=_;by_cases h:b<a
 .rw[y6 h,Ei ⋯]
 .rw[y8 h,Ef ⋯]
def Uo(a b:Int):uH [.int a,.int b]=some (.int (max a b)):=by
 show some (D.int (if b>a then b else a))=_;by_cases h:b>a
 .rw[y6 h,Ej ⋯]
 .rw[y8 h,F6 ⋯]
def IW:EO:=
 J6 (i4 6 (x8 K3 (z9 (d2 jE (y3 0) (d2 oR (dI 11) (y3 5))) (z9 (dI 9949) (kM 3)))))
 (J6 (i4 7 (x8 K3 (z9 (d2 jE (d2 jE (y3 0) (d2 oR (dI 13) (y3 5))) (dI 1)) (z9 (dI 9941) (kM 3)))))
 (J6 (i4 8 (jP (z9 (x8 rP (jQ 6 7)) (z9 (x8 uH (jQ 6 7)) Q7))))
 (jV (qE (u0 (d2 kZ (y3 6) (y3 7))) (u0 (kN true (y3 8) (kK 4))))
 (qK 4 (y3 8))
 jZ)))
theorem ĝ{c m t:D}{cc n k:Int}{ts:List d3}{c6 c7 c8:Option Cell}(hn:0<n)(hok:∀t∈ts,0<=t.1/\t.1<t.2/\t.2<n)(aB:ts.Nodup)(hl:ts.length<=1000):
  ∃(cC:List d3) (cW dw c8':Option Cell),IW [sC (.int cc),sC m,sC t,sC (.int n),some (.ow (ts.map j8)),sC (.int k),c6,c7,c8] =
   some (.nx [sC (.int cc),sC m,sC t,sC (.int n),some (.ow (cC.map j8)),sC (.int k),cW,dw,c8'])/\(∀t∈cC,0<=t.1/\t.1<t.2/\t.2<n)/\cC.Nodup/\cC.length<=ts.length+1:=by
 have a1:=xF (cc+11*k) 9949 hn;have a2:=xE (cc+11*k) 9949 hn;have b1:=xF (cc+13*k+1) 9941 hn;have b2:=xE (cc+13*k+1) 9941 hn;generalize e1:mL (cc+11*k) 9949 n=a at a1 a2;generalize e2:mL (cc+13*k+1) 9941 n=b at b1 b2
 have f1:K3 [.int (cc+11*k),.int 9949,.int n]=some (.int a):=by rw[vI _ ∅ hn,e1]
 have f2:K3 [.int (cc+13*k+1),.int 9941,.int n]=some (.int b):=by rw[vI _ ∅ hn,e2]
 have g0:∀Y:J5,Y[0]?=some (sC (.int cc))->Y[5]?=some (sC (.int k))->∀j:Int,uT j=true->d2 jE (y3 0) (d2 oR (dC (.int j)) (y3 5)) Y=some (.int (cc+j*k)):=λY h0 h5 j hj=>by
  have z0:y3 0 Y=some (.int cc):=by unfold y3;rw[h0]
  have z5:y3 5 Y=some (.int k):=by unfold y3;rw[h5]
  exact(kP z0 ((kP (x:=.int j) (y:=.int k) rfl z5).trans (RD k hj))).trans rfl
 let tie:d3:=(Mw a b,max a b)
 have step:IW [sC (.int cc),sC m,sC t,sC (.int n),some (.ow (ts.map j8)),sC (.int k),c6,c7,c8] =
   jV (qE (u0 (d2 kZ (y3 6) (y3 7))) (u0 (kN true (y3 8) (kK 4)))) (qK 4 (y3 8)) jZ
    [sC (.int cc),sC m,sC t,sC (.int n),some (.ow (ts.map j8)),sC (.int k),sC (.int a),sC (.int b),sC (j8 tie)]:=by
  refine v9 (Q8 (d:=.int a) ((v8 (ds:=[.int (cc+11*k),.int 9949,.int n]) (u7 (g0 _ rfl rfl 11 ∅) rfl)).trans f1)) ?_;refine v9 (Q8 (d:=.int b) ((v8 (ds:=[.int (cc+13*k+1),.int 9941,.int n]) (u7 ((kP (g0 _ rfl rfl 13 ∅) rfl).trans rfl) rfl)).trans f2)) ?_;exact v9 (Q8 (d:=j8 tie) (nV (ds:=[.int tie.1,.int tie.2]) (u7 ((v8 (ds:=[.int a,.int b]) rfl).trans (KZ a b)) (u7 ((v8 (ds:=[.int a,.int b]) rfl).trans (Uo a b)) rfl)) (show 2<=f8 by decide))) rfl
 rw[step]
 have et:qE (u0 (d2 kZ (y3 6) (y3 7))) (u0 (kN true (y3 8) (kK 4))) [sC (.int cc),sC m,sC t,sC (.int n),some (.ow (ts.map j8)),sC (.int k),sC (.int a),sC (.int b),sC (j8 tie)]=some (!(a==b)&&!decide (tie∈ts)):=by
  refine Rh (W5 rfl) λ_=>W5 ((FG (d:=j8 tie) (ds:=ts.map j8) rfl rfl (C7 (HC ts) ∅) (by rw[Pj];decide)).trans ?_)
  rw[Rs];rfl
 rw[mI et]
 cases hc:(!(a==b)&&!decide (tie∈ts)) with
 |false=>exact⟨ts,_,_,_,rfl,hok,aB,E9 _⟩
 |true=>
  rw[B8]at hc
  have am:a≠b:=by simpa using hc.1
  have jo:tie∉ts:=by simpa using hc.2
  refine⟨ts++[tie],sC (.int a),sC (.int b),sC (j8 tie),?_,λu hu=>?_,?_,by simp⟩
  .rw[y6 rfl];refine(KO (ds:=ts.map j8) (d:=j8 tie) rfl rfl (by rw[A3];unfold f8;omega)).trans ?_
   rw[B9];rfl
  .rcases Az.mp hu with z|z
   .exact hok u z
   .have:u=tie:=by simpa using z
    subst this;show 0<=Mw a b/\Mw a b<max a b/\max a b<n;omega
  .rw[Cq];refine⟨aB,by simp,λx hx y hy=>?_⟩
   have:y=tie:=by simpa using hy
   subst this;exact λz=>jo (z▸hx)
def Wc(c:Int){most ties:Int}(h1:1<=most)(h6:most<=6)(t0:0<=ties)(t12:ties<=12):
  ∃(n:Int) (ts:List d3),CN [.int c,.int most,.int ties]=some (d9 n ts)/\BO n ts/\n<=most/\(ts.length:Int)<=ties:=by
 have a1:=xF c 9973 (show 0<most by omega);have a2:=xE c 9973 (show 0<most by omega);have b1:=xF c 9967 (show 0<ties+1 by omega);have b2:=xE c 9967 (show 0<ties+1 by omega)
 obtain⟨n,hn1,iH,e1⟩:∃n:Int,1<=n/\n<=most/\∀k:EO,J6 (i4 3 (d2 jE (dI 1) (x8 K3 (z9 (y3 0) (z9 (dI 9973) (kM 1))))))
   (J6 (jV (qE (u0 (d2 oU (y3 3) (dI 4))) (u0 (d2 BC (d2 oX (y3 0) (dI 4)) (dI 0)))) (i4 3 (y3 1)) jZ) k) [sC (.int c),sC (.int most),sC (.int ties),none,none,none,none,none,none] =
   k [sC (.int c),sC (.int most),sC (.int ties),sC (.int n),none,none,none,none,none]:=by
  have s1:∀k,J6 (i4 3 (d2 jE (dI 1) (x8 K3 (z9 (y3 0) (z9 (dI 9973) (kM 1)))))) k [sC (.int c),sC (.int most),sC (.int ties),none,none,none,none,none,none] =
    k [sC (.int c),sC (.int most),sC (.int ties),sC (.int (1+mL c 9973 most)),none,none,none,none,none]:=λk=>
   v9 (Q8 (d:=.int (1+mL c 9973 most)) ((kP (x:=.int 1) (y:=.int (mL c 9973 most)) rfl ((v8 (ds:=[.int c,.int 9973,.int most]) rfl).trans (vI c ∅ ⋯))).trans rfl)) rfl
  have s2:qE (u0 (d2 oU (y3 3) (dI 4))) (u0 (d2 BC (d2 oX (y3 0) (dI 4)) (dI 0))) [sC (.int c),sC (.int most),sC (.int ties),sC (.int (1+mL c 9973 most)),none,none,none,none,none]=some (decide (1+mL c 9973 most<4)&&decide (0<c % 4)):=Rh (W5 rfl) λ_=>W5 ((kP (x:=.int (c % 4)) (y:=.int 0) ((kP (x:=.int c) (y:=.int 4) rfl rfl).trans (zX c ∅)) rfl).trans rfl)
  cases hc:(decide (1+mL c 9973 most<4)&&decide (0<c % 4)) with
  |true=>refine⟨most,h1,Ob _,λk=>(s1 _).trans (v9 ((mI s2).trans ?_) rfl)⟩;rw[hc];rfl
  |false=>refine⟨1+mL c 9973 most,⋯,⋯,λk=>(s1 _).trans (v9 ((mI s2).trans ?_) rfl)⟩;rw[hc];rfl
 have hok:nG (mL c 9967 (ties+1))=true:=by unfold nG;rw[Y1 ⋯,Y1 ⋯];rfl
 obtain⟨Y',l1,ts,c5,c6,c7,c8,rfl,q1,q2,q3⟩:=yW (h:=u4 5) (g:=IW) (λpre Y=>∃(ts:List d3) (c5 c6 c7 c8:Option Cell),Y=[sC (.int c),sC (.int most),sC (.int ties),sC (.int n),some (.ow (ts.map j8)),c5,c6,c7,c8]/\(∀t∈ts,0<=t.1/\t.1<t.2/\t.2<n)/\ts.Nodup/\ts.length<=pre.length)
  (ds:=Q6 0 (mL c 9967 (ties+1)).toNat) (Y:=[sC (.int c),sC (.int most),sC (.int ties),sC (.int n),some (.ow []),none,none,none,none]) ⟨[],none,none,none,none,rfl,λt h=>u3 h (by simp),Ep,Ad _⟩ (λpre d post Y he hI=>by
   obtain⟨ts,c5,c6,c7,c8,rfl,q1,q2,q3⟩:=hI;obtain⟨k,hk,rfl⟩:=Pk (show d∈Q6 0 _ by rw[<-he];simp)
   have ab:=lE Kb he;rw[vF,Ap]at ab;obtain⟨cC,cW,dw,c8',w1,w2,w3,w4⟩:=ĝ (c:=.non) (cc:=c) (m:=.int most) (t:=.int ties) (k:=(k:Int)) (c6:=c6) (c7:=c7) (c8:=c8) (show 0<n by omega) q1 q2 ⋯;refine⟨_,_,rfl,.inl w1,cC,_,cW,dw,c8',rfl,w2,w3,?_⟩;rw[Ap]
   exact C7 w4 (Ma q3))
 have gZ:(ts.length:Int)<=ties:=by rw[vF]at q3;omega
 refine⟨n,mO ts,?_,⟨hn1,⋯,CK ts q2,λt ht=>q1 t ((rD ts).mem_iff.mp ht)⟩,iH,by rw[(rD ts).length_eq];exact gZ⟩
 refine nP (x:=Pq [sC (.int c),sC (.int most),sC (.int ties),none,none,none,none,none,none]) ?_;refine(e1 _).trans (v9 (wC (ds:=[]) (zT (ds:=[]) rfl ∅)) ?_);refine v9 ((oZ (ds:=Q6 0 (mL c 9967 (ties+1)).toNat) ?_).trans l1) ?_
 .exact AE ((v8 (ds:=[.int c,.int 9967,.int (ties+1)]) rfl).trans (vI c ∅ ⋯)) hok
 .refine lU (nV (ds:=[.int n,.tup ((mO ts).map j8)]) (u7 rfl (u7 (qV ((xS (ds:=ts.map j8) rfl).trans (DH ⋯))) rfl)) (show 2<=f8 by decide))
def Qa(lo:Int)(m:Nat):Q6 lo (m+1) = .int lo::Q6 (lo+1) m:=by
 unfold Q6;rw[Gp,Ai,B2];congr 1
 .simp
 .refine B6 λk _=>?_;simp only[Lz];congr 1;omega
def wD{n j:Nat}(h:j<n):qO n (j:Int)=some j:=by unfold qO;rw[y6 ⋯,y6 ⋯,Av]
theorem KC{α β:Type}(f:α->β):∀(l:List α) (j:Nat),(l.map f).eraseIdx j=(l.eraseIdx j).map f
 | [],_=>rfl
 |_::_,0=>rfl
 |a::l,j+1=>by show f a::(l.map f).eraseIdx j=f a::(l.eraseIdx j).map f;rw[KC f l j]
theorem erase_perm{α:Type}:∀(l:List α) (j:Nat) (h:j<l.length),(l[j]::l.eraseIdx j).Perm l
 |a::l,0,_=>F2 _
 |a::l,j+1,h=>by
  have ih:=erase_perm l j (by simpa using h)
  have hj:j<l.length:=by simpa using h
  show (l[j]::a::l.eraseIdx j).Perm (a::l);exact(Jj _ _ _).trans (ih.cons a)
def zZ:J5->Option (D×J5):=yF 1 (x8 K3 (z9 (d2 jE (y3 2) (d2 oR (dI 5) (y3 0))) (z9 (dI 9931) (z9 (d2 pJ (y3 3) (y3 0)) Q7))))
def YH{n k:Nat}{ls:List Int}(hl:ls.length+k=n)(hk:k<n)(hn:n<=1000):
  ∃(j:Nat) (h:j<ls.length),zZ [sC (.int (k:Int)),some (.ow (ls.map D.int)),sC (.int c),sC (.int (n:Int))]=some (.int ls[j],[sC (.int (k:Int)),some (.ow ((ls.eraseIdx j).map D.int)),sC (.int c),sC (.int (n:Int))]):=by
 have hm:(0:Int)<(n:Int)-(k:Int):=by omega
 have a1:=xF (c+5*(k:Int)) 9931 hm;have a2:=xE (c+5*(k:Int)) 9931 hm;obtain⟨j,hj⟩:=Dh a1
 have cQ:j<ls.length:=by omega
 refine⟨j,cQ,?_⟩
 have ef:x8 K3 (z9 (d2 jE (y3 2) (d2 oR (dI 5) (y3 0))) (z9 (dI 9931) (z9 (d2 pJ (y3 3) (y3 0)) Q7))) [sC (.int (k:Int)),some (.ow (ls.map D.int)),sC (.int c),sC (.int (n:Int))]=some (.int (j:Int)):=by refine(v8 (ds:=[.int (c+5*(k:Int)),.int 9931,.int ((n:Int)-(k:Int))]) (u7 ((kP (x:=.int c) (y:=.int (5*(k:Int))) rfl ((kP (x:=.int 5) (y:=.int (k:Int)) rfl rfl).trans (RD _ ∅))).trans rfl) rfl)).trans ?_;rw[vI _ ∅ hm,hj]
 have eo:kK 1 [sC (.int (k:Int)),some (.ow (ls.map D.int)),sC (.int c),sC (.int (n:Int))]=some (ls.map D.int):=rfl;unfold zZ yF;rw[eo,ef];right;rw[A3,wD cQ];right;rw[Ao,A4 cQ];dsimp only[Option.map_some];rw[y6 (by unfold f8;omega),KC]
 rfl
theorem UH{n:Nat}(hn:n<=1000):∀(m k:Nat) (ls:List Int) (c0:Option Cell),ls.length=m->m+k=n ->
  ∃r:List Int,r8 (u4 0) zZ [c0,some (.ow (ls.map D.int)),sC (.int c),sC (.int (n:Int))] (Q6 (k:Int) m)=some (r.map D.int)/\r.Perm ls
 | 0,k,ls,c0,hl,hk=>by
  have:ls=[]:=F1 hl
  subst this;exact⟨[],rfl,F2 _⟩
 |m+1,k,ls,c0,hl,hk=>by
  obtain⟨j,hj,e⟩:=YH (c:=c) (n:=n) (k:=k) (ls:=ls) ⋯ ⋯ hn;obtain⟨r,e2,hp⟩:=UH hn m (k+1) (ls.eraseIdx j) (sC (.int (k:Int))) (by rw[List.length_eraseIdx,y6 hj];omega) ⋯
  refine⟨ls[j]::r,?_,(hp.cons _).trans (erase_perm ls j hj)⟩;rw[Qa];unfold r8
  show (match zZ [sC (.int (k:Int)),some (.ow (ls.map D.int)),sC (.int c),sC (.int (n:Int))] with
   |some (y,Y2)=>(match r8 (u4 0) zZ Y2 (Q6 ((k:Int)+1) m) with|some ys=>some (y::ys)|none=>none)
   |none=>none)=_
  rw[e];right
  have ek:((k:Int)+1)=((k+1:Nat):Int):=by omega
  rw[ek,e2];rfl
def NU(c:Int){n:Int}(h0:0<=n)(h1:n<=1000):∃r:List Int,zD [.int c,.int n]=some (.tup (r.map D.int))/\r.Perm (kB 0 n.toNat):=by
 obtain⟨m,rfl⟩:=Dh h0
 have ab:(kB 0 m).length=m:=by unfold kB;rw[A3,At]
 obtain⟨r,e,hp⟩:=UH (c:=c) (n:=m) ⋯ m 0 (kB 0 m) none ab ⋯;have e0:((0:Nat):Int)=0:=rfl;rw[e0]at e;refine⟨r,?_,by rw[Av];exact hp⟩
 refine nP (x:=Pp [sC (.int c),sC (.int (m:Int)),none]) ?_
 have el:oM (y3 1) [sC (.int c),sC (.int (m:Int)),none]=some ((kB 0 m).map D.int):=by rw[DC (j:=(m:Int)) rfl ⋯ ⋯,Av]
 refine v9 (wC (ds:=(kB 0 m).map D.int) el) ?_
 have er:kF (y3 1) [sC (.int c),sC (.int (m:Int)),some (.ow ((kB 0 m).map D.int))]=some (Q6 0 m):=by rw[AE (j:=(m:Int)) rfl (by unfold nG;rw[Y1 ⋯,Y1 ⋯];rfl),Av]
 exact lU (qV ((ϔ er (by rw[vF];unfold f8;omega)).trans e))
def Tl(n:Nat):(kB 0 n).length=n:=by unfold kB;simp
def ò(n:Nat):(kB 0 n).Pairwise (·<=·):=by
 unfold kB;rw[Bu]
 exact E5.imp λ{a b} h=>by omega
def ē{r:List Int}(h:r.Perm (kB 0 n)):vJ r=kB 0 n:=zK (le:=λa b:Int=>a<=b) (λa b h1 h2=>⋯) ((GW r).trans h) (Tg r) (ò n) λa=>Ob a
def kH(r:List Int)(p:Int):Int:=(r.idxOf p:Nat)
def W9(r:List Int):List d4:=r.map Cf
def Ĕ(r:List Int)(p:Int):W9 (r++[p])=W9 r++[Cf p]:=by unfold W9;rw[B9];rfl
def ĕ:(Cf p:d4)∈W9 r↔p∈r:=by
 unfold W9;constructor
 .intro h;obtain⟨q,hq,e⟩:=Aq.mp h;cases e;exact hq
 .exact λh=>Cd h
def WK{r:List Int}(h:r.Nodup):(W9 r).Nodup:=by unfold W9;exact Bu.mpr (h.imp λ{a b} bW z=>bW (Gk z))
theorem CF:∀(ks:List d4) (vs:List D) (j:d4) (d:D),ks.length=vs.length->j∉ks->lI ks vs j d=(ks++[j],vs++[d])
 | [],[],_,_,_,_=>rfl
 | [],_::_,_,_,h,_=>by cases h
 |_::_,[],_,_,h,_=>by cases h
 |k::ks,v::vs,j,d,hl,hn=>by have am:k≠j:=λz=>hn (z▸A6);unfold lI;rw[y8 am,CF ks vs j d (by simpa using hl) λz=>hn (A7 _ z)];rfl
def ZR(n:Nat):Q6 0 (n+1)=Q6 0 n++[.int (n:Int)]:=by unfold Q6;rw[Kn,B9];simp
theorem Ql:∀(r:List Int) (k:Nat) (p:Int),p∈r->lD (W9 r) (Q6 (k:Int) r.length) (Cf p)=some (.int ((k+r.idxOf p:Nat):Int))
 | [],_,_,h=>by cases h
 |q::r,k,p,h=>by
  have e:Q6 (k:Int) (q::r).length = .int (k:Int)::Q6 ((k+1:Nat):Int) r.length:=by rw[Au,Qa];rfl
  rw[e];show (if (Cf q:d4)=Cf p then some (D.int (k:Int)) else lD (W9 r) (Q6 ((k+1:Nat):Int) r.length) (Cf p))=_;by_cases hq:q=p
  .subst hq;rw[y6 rfl,Hr];rfl
  .have hp:p∈r:=by
    rcases Ac.mp h with z|z
    .exact u3 z.symm hq
    .exact z
   have hi:(q::r).idxOf p=r.idxOf p+1:=by rw[Gx,beq_false_of_ne hq];rfl
   rw[y8 λz=>hq (Gk z),Ql r (k+1) p hp,hi];congr 2;omega
def SM{r:List Int}{p:Int}(h:p∈r):lD (W9 r) (Q6 0 r.length) (Cf p)=some (.int (kH r p)):=by
 have:=Ql r 0 p h
 rw[O2]at this;exact this
theorem Rm:∀(r done:List Int) (c3 c4:Option Cell),(done++r).Nodup->(done++r).length<=1000 ->
  ∃iB cj,kR (nK 2 (Z9 (u4 2) (Z9 (u4 3) (nJ)))) (nO 1 (y3 3) (y3 2)) (nA done.length (r.map D.int)) [sC rw',some (.od (W9 done) (Q6 0 done.length)),c3,c4] =
   some (.nx [sC rw',some (.od (W9 (done++r)) (Q6 0 (done++r).length)),iB,cj])
 | [],done,c3,c4,_,_=>⟨c3,c4,by rw[Cr];rfl⟩
 |p::r,done,c3,c4,hn,hl=>by
  have bB:((done++[p])++r).Nodup:=by rw[Cp];exact hn
  have bR:((done++[p])++r).length<=1000:=by rw[Cp];exact hl
  obtain⟨iB,cj,ih⟩:=Rm r (done++[p]) (sC (.int (done.length:Int))) (sC (.int p)) bB bR;refine⟨iB,cj,?_⟩
  have hp:p∉done:=λz=>by
   have:=(Cq.mp hn).2.2
   exact this p z p A6 rfl
  have hd:done.Nodup:=(Cq.mp hn).1
  have ab:done.length<1000:=by rw[Ap,Au]at hl;omega
  have step:nO 1 (y3 3) (y3 2) [sC rw',some (.od (W9 done) (Q6 0 done.length)),sC (.int (done.length:Int)),sC (.int p)] =
    some (.nx [sC rw',some (.od (W9 (done++[p])) (Q6 0 (done++[p]).length)),sC (.int (done.length:Int)),sC (.int p)]):=by
   show (if (W9 done).Nodup/\(W9 done).length<f8 then some (Out.nx [sC rw',some (.od (lI (W9 done) (Q6 0 done.length) (Cf p) (.int (done.length:Int))).1 (lI (W9 done) (Q6 0 done.length) (Cf p) (.int (done.length:Int))).2),sC (.int (done.length:Int)),sC (.int p)]) else none)=_;rw[y6 ⟨WK hd,by unfold W9;rw[A3];unfold f8;omega⟩,CF _ _ _ _ (by unfold W9;rw[A3,vF]) (λz=>hp (ĕ.mp z)),<-Ĕ,Ap,Bg,ZR]
  rw[Ai];show kR _ _ (.tup [.int (done.length:Int),.int p]::nA (done.length+1) (r.map D.int)) _=_;unfold kR
  show (match nO 1 (y3 3) (y3 2) [sC rw',some (.od (W9 done) (Q6 0 done.length)),sC (.int (done.length:Int)),sC (.int p)] with
   |some (.nx Y2)=>kR _ _ (nA (done.length+1) (r.map D.int)) Y2
   |some (.ct Y2)=>kR _ _ (nA (done.length+1) (r.map D.int)) Y2
   |some (.bk Y2)=>some (.nx Y2)
   |some (.rt v)=>some (.rt v)
   |none=>none)=_
  rw[step];right;rw[Ap,Bg]at ih ⊢;rw[ih,Cp];rfl
def WQ{r:List Int}(hn:r.Nodup)(hr:r.length<=1000):GN [.tup (r.map D.int)]=some (.dct (W9 r) (Q6 0 r.length)):=by
 show lM (GR [sC (.tup (r.map D.int)),none,none,none])=_;obtain⟨c3,c4,hl⟩:=Rm (rw':=.tup (r.map D.int)) r [] none none (by simpa using hn) (by simpa using hr)
 have fin:GR [sC (.tup (r.map D.int)),none,none,none]=some (.rt (.dct (W9 r) (Q6 0 r.length))):=by refine v9 rfl ?_;refine v9 ((oZ (ds:=nA 0 (r.map D.int)) rfl).trans hl) ?_;rfl
 rw[fin];rfl
def kC(r:List Int)(t:d3):d3:=(Mw (kH r t.1) (kH r t.2),max (kH r t.1) (kH r t.2))
def IC(a b:Int):Y7 [.int a,.int b]=some (.tup [.int (Mw a b),.int (max a b)]):=by
 refine nP (x:=OJ [sC (.int a),sC (.int b)]) ?_;refine lU (nV (ds:=[.int (Mw a b),.int (max a b)]) (u7 ?_ (u7 ?_ rfl)) (show 2<=f8 by decide))
 .exact KZ a b
 .exact Uo a b
def We{r:List Int}{t:d3}(h1:t.1∈r)(h2:t.2∈r):CO [.dct (W9 r) (Q6 0 r.length),j8 t]=some (j8 (kC r t)):=by
 show lM (JX [sC (.dct (W9 r) (Q6 0 r.length)),sC (j8 t)])=_;have e1:pH (y3 0) (jF 1 0) [sC (.dct (W9 r) (Q6 0 r.length)),sC (j8 t)]=some (.int (kH r t.1)):=SM h1;have e2:pH (y3 0) (jF 1 1) [sC (.dct (W9 r) (Q6 0 r.length)),sC (j8 t)]=some (.int (kH r t.2)):=SM h2
 have fin:JX [sC (.dct (W9 r) (Q6 0 r.length)),sC (j8 t)]=some (.rt (j8 (kC r t))):=by refine lU ?_;exact(v8 (ds:=[.int (kH r t.1),.int (kH r t.2)]) (u7 e1 (u7 e2 rfl))).trans (IC _ _)
 rw[fin];rfl
def HM{ts:List d3}{r:List Int}(hn:r.Nodup)(hr:r.length<=1000)(ht:ts.length<=1000)(hm:∀t∈ts,t.1∈r/\t.2∈r):
  zG [d9 n ts,.tup (r.map D.int)]=some (.lst (ts.map λt=>j8 (kC r t))):=by
 refine nP (x:=Qc [sC (d9 n ts),sC (.tup (r.map D.int)),none]) ?_;refine v9 (Q8 (d:=.dct (W9 r) (Q6 0 r.length)) ((v8 (ds:=[.tup (r.map D.int)]) rfl).trans (WQ hn hr))) ?_;show i9 (lG (Q5 _ _ _ _ _)) [sC (d9 n ts),sC (.tup (r.map D.int)),sC (.dct (W9 r) (Q6 0 r.length))]=_;refine lU (oE ?_);refine(nM (ds:=ts.map j8) rfl (by rw[A3];unfold f8;omega)).trans ?_
 refine(vG (λY=>∃c,Y=[c,sC (.dct (W9 r) (Q6 0 r.length))]) (λd=>match d with|.tup [.int a,.int b]=>j8 (kC r (a,b))|_=>.non) _ _ ⟨none,rfl⟩ ?_).trans ?_
 .rintro d hd Y ⟨c,rfl⟩;obtain⟨t,gN,rfl⟩:=Aq.mp hd;refine⟨_,rfl,⟨_,rfl⟩,?_⟩;exact(v8 (ds:=[.dct (W9 r) (Q6 0 r.length),j8 t]) rfl).trans (We (hm t gN).1 (hm t gN).2)
 .rw[B2];rfl
def mF(s t:d3):Ba:=if s.1=t.1\/s.1=t.2\/s.2=t.1\/s.2=t.2 then "meet" else
 if (if jM t s then t else s).2<(if jM s t then t else s).1 then "apart" else if (if jM t s then t else s).2<(if jM s t then t else s).2 then "cross" else "within"
def lt_int(a b:Int):oU (.int a) (.int b)=some (.bl (decide (a<b))):=rfl
def Vs(a c d:Int):oA (.int a) [.int c,.int d]=(decide (a=c)||decide (a=d)):=by
 show ((c==a)||((d==a)||false))=_;rw[Jx];congr 1
 .rw[show (c==a)=decide (c=a) from rfl];exact decide_eq_decide.mpr eq_comm
 .rw[show (d==a)=decide (d=a) from rfl];exact decide_eq_decide.mpr eq_comm
def Yb(s t:d3):LW [j8 s,j8 t]=some (j8 (if jM t s then t else s)):=by
 show some (if HT.lexLt [t.1,t.2] [s.1,s.2]=true then j8 t else j8 s)=_;rw[wF];by_cases h:jM t s
 .rw[y6 h,y6 (Y1 h)]
 .rw[y8 h,y8 (by rw[W4 h];decide)]
def Ya(s t:d3):LU [j8 s,j8 t]=some (j8 (if jM s t then t else s)):=by
 show some (if HT.lexLt [s.1,s.2] [t.1,t.2]=true then j8 t else j8 s)=_;rw[wF];by_cases h:jM s t
 .rw[y6 h,y6 (Y1 h)]
 .rw[y8 h,y8 (by rw[W4 h];decide)]
def ý(s t:d3):HY [j8 s,j8 t]=some (.str (mF s t)):=by
 show lM (IA [sC (j8 s),sC (j8 t),none,none])=_
 have e1:qL (u0 (kN false (jF 0 0) (b9 (y3 1)))) (u0 (kN false (jF 0 1) (b9 (y3 1)))) [sC (j8 s),sC (j8 t),none,none] =
   some ((decide (s.1=t.1)||decide (s.1=t.2))||(decide (s.2=t.1)||decide (s.2=t.2))):=by
  refine KP (W5 ((FG (d:=.int s.1) (ds:=[.int t.1,.int t.2]) rfl rfl (by simp[lT,depth,jY]) (by simp[depth,jY])).trans ?_)) λ_=>W5 ((FG (d:=.int s.2) (ds:=[.int t.1,.int t.2]) rfl rfl (by simp[lT,depth,jY]) (by simp[depth,jY])).trans ?_)
  .rw[Vs];rfl
  .rw[Vs];rfl
 have fin:IA [sC (j8 s),sC (j8 t),none,none]=some (.rt (.str (mF s t))):=by
  unfold mF;by_cases hm:s.1=t.1\/s.1=t.2\/s.2=t.1\/s.2=t.2
  .rw[y6 hm];refine AF ?_;rw[mI e1]
   have:((decide (s.1=t.1)||decide (s.1=t.2))||(decide (s.2=t.1)||decide (s.2=t.2)))=true:=by simp only[Ki,decide_eq_true_eq];omega
   rw[this];rfl
  .rw[y8 hm];refine v9 (Y':=[sC (j8 s),sC (j8 t),none,none]) ?_ ?_
   .rw[mI e1]
    have:((decide (s.1=t.1)||decide (s.1=t.2))||(decide (s.2=t.1)||decide (s.2=t.2)))=false:=by simp only[Bool.or_eq_false_iff,decide_eq_false_iff_not];omega
    rw[this];rfl
   .generalize hf:(if jM t s then t else s)=f;generalize hg:(if jM s t then t else s)=g;refine v9 (Q8 (d:=j8 f) ((v8 (ds:=[j8 s,j8 t]) rfl).trans (by rw[Yb,hf]))) ?_;refine v9 (Q8 (d:=j8 g) ((v8 (ds:=[j8 s,j8 t]) rfl).trans (by rw[Ya,hg]))) ?_;have e2:u0 (d2 oU (jF 2 1) (jF 3 0)) [sC (j8 s),sC (j8 t),sC (j8 f),sC (j8 g)]=some (decide (f.2<g.1)):=rfl;have e3:u0 (d2 oU (jF 2 1) (jF 3 1)) [sC (j8 s),sC (j8 t),sC (j8 f),sC (j8 g)]=some (decide (f.2<g.2)):=rfl
    by_cases h1:f.2<g.1
    .rw[y6 h1];refine AF ((mI e2).trans ?_);rw[Y1 h1];rfl
    .rw[y8 h1];refine v9 (Y':=[sC (j8 s),sC (j8 t),sC (j8 f),sC (j8 g)]) ((mI e2).trans ?_) ?_
     .rw[W4 h1];rfl
     .refine lU ((v24 e3).trans ?_);by_cases h2:f.2<g.2
      .rw[y6 h2,Y1 h2];rfl
      .rw[y8 h2,W4 h2];rfl
 rw[fin];rfl
def yH(s t:d3):Nat:=if s.1=t.1\/s.1=t.2\/s.2=t.1\/s.2=t.2 then 0 else
 if (if jM t s then t else s).2<(if jM s t then t else s).1 then 1 else if (if jM t s then t else s).2<(if jM s t then t else s).2 then 2 else 3
def AO:Nat->Ba
 | 0=>"meet"
 | 1=>"apart"
 | 2=>"cross"
 |_=>"within"
def CA(s t:d3):mF s t=AO (yH s t):=by unfold yH;rw[apply_ite AO,apply_ite AO,apply_ite AO];rfl
theorem QJ:∀r:List Int,lT (r.map D.int)=0
 | []=>by rw[Go,lT]
 |p::r=>by
  have e:depth (.int p)=0:=by simp[depth]
  rw[Ai,lT,QJ r,e];rfl
def Ŵ{ts:List d3}{i:Nat}{s:d3}(h:ts[i]?=some s):lL (ts.map j8) (i:Int)=some (j8 s):=by have ak:i<ts.length:=(B0.mp h).1;unfold lL;rw[A3,wD ak];show (ts.map j8)[i]?=_;rw[Ao,h];rfl
def wP(h:jM s t)(h':jM t s):False:=uU s (PU h h')
theorem GX:∀{xs ys:List d3},xs.Pairwise jM->ys.Pairwise jM->(∀t,t∈xs↔t∈ys)->xs=ys
 | [],[],_,_,_=>rfl
 | [],y::ys,_,_,h=>u3 ((h y).mpr A6) (by simp)
 |x::xs,[],_,_,h=>u3 ((h x).mp A6) (by simp)
 |x::xs,y::ys,hx,hy,h=>by
  rw[D7]at hx hy
  have e:x=y:=by
   rcases Ac.mp ((h x).mp A6) with z|z
   .exact z
   .rcases Ac.mp ((h y).mpr A6) with q|q
    .exact q.symm
    .exact u3 (hx.1 y q) λw=>wP w (hy.1 x z)
  subst e;congr 1;refine GX hx.2 hy.2 λt=>?_;constructor
  .intro ht;rcases Ac.mp ((h t).mp (A7 _ ht)) with z|z
   .subst z;exact u3 (hx.1 _ ht) (uU _)
   .exact z
  .intro ht;rcases Ac.mp ((h t).mpr (A7 _ ht)) with z|z
   .subst z;exact u3 (hy.1 _ ht) (uU _)
   .exact z
def Y3(m:Nat)(cl:Nat->Nat->Bool)(k:Nat):List d3:=(Aa k).flatMap λi=>(((Aa (m-(i+1))).map λq=>i+1+q).filter (cl i)).map λ(j:Nat)=>((i:Int),(j:Int))
def qZ(cl:Nat->Nat->Bool)(k:Nat):List d3:=(Aa k).flatMap λj=>((Aa j).filter λi=>cl i j).map λ(i:Nat)=>((i:Int),(j:Int))
def wY{t:d3}:t∈Y3 m cl k↔∃i j:Nat,t=((i:Int),(j:Int))/\i<k/\i<j/\j<m/\cl i j=true:=by
 unfold Y3;rw[Mj];constructor
 .rintro ⟨i,hi,h⟩;obtain⟨j,hj,rfl⟩:=Aq.mp h;obtain⟨fj,gm⟩:=B7.mp hj;obtain⟨q,hq,rfl⟩:=Aq.mp fj
  have:=Am.mp hi
  have:=Am.mp hq
  exact⟨i,i+1+q,rfl,⋯,⋯,⋯,gm⟩
 .rintro ⟨i,j,rfl,h1,h2,h3,h4⟩;refine⟨i,Am.mpr h1,Aq.mpr ⟨j,B7.mpr ⟨Aq.mpr ⟨j-(i+1),Am.mpr ⋯,⋯⟩,h4⟩,rfl⟩⟩
def Wq{t:d3}:t∈qZ cl k↔∃i j:Nat,t=((i:Int),(j:Int))/\i<j/\j<k/\cl i j=true:=by
 unfold qZ;rw[Mj];constructor
 .rintro ⟨j,hj,h⟩;obtain⟨i,hi,rfl⟩:=Aq.mp h;obtain⟨bA,df⟩:=B7.mp hi;exact⟨i,j,rfl,Am.mp bA,Am.mp hj,df⟩
 .rintro ⟨i,j,rfl,h1,h2,h3⟩;exact⟨j,Am.mpr h2,Aq.mpr ⟨i,B7.mpr ⟨Am.mpr h1,h3⟩,rfl⟩⟩
def Oz(m k:Nat)(cl:Nat->Nat->Bool):(Y3 m cl k).Pairwise jM:=by
 unfold Y3;rw[List.pairwise_flatMap];refine⟨λi _=>?_,?_⟩
 .rw[Bu];refine Ii.filter _ ?_;rw[Bu]
  exact E5.imp λ{a b} h=>by unfold jM;right;omega
 .refine E5.imp λ{a b} h x hx y hy=>?_;obtain⟨p,_,rfl⟩:=Aq.mp hx;obtain⟨q,_,rfl⟩:=Aq.mp hy;unfold jM;right;omega
def Xz(k:Nat)(cl:Nat->Nat->Bool):(qZ cl k).Nodup:=by
 unfold qZ Nw;rw[List.pairwise_flatMap];refine⟨λj _=>?_,?_⟩
 .rw[Bu];refine Ii.filter _ ?_
  exact E5.imp λ{a b} h z=>by have:=(Kf z).1;omega
 .refine E5.imp λ{a b} h x hx y hy z=>?_;obtain⟨p,_,rfl⟩:=Aq.mp hx;obtain⟨q,_,rfl⟩:=Aq.mp hy
  have:=(Kf z).2
  omega
def Θ(m:Nat)(cl:Nat->Nat->Bool):mO (qZ cl m)=Y3 m cl m:=by
 refine GX (CK _ (Xz m cl)) (Oz m m cl) λt=>?_;rw[(rD _).mem_iff,Wq,wY];constructor
 .rintro ⟨i,j,h1,h2,h3,h4⟩;exact⟨i,j,h1,⋯,h2,h3,h4⟩
 .rintro ⟨i,j,h1,h2,h3,h4,h5⟩;exact⟨i,j,h1,h3,h4,h5⟩
def dis(s t:d3):Bool:=decide (jM s t)&&!((decide (s.1=t.1)||decide (s.1=t.2))||(decide (s.2=t.1)||decide (s.2=t.2)))
def yJ:List (Ba×Ba):=[("pile","cross"),("queue","within")]
def P3{k w:Ba}(hk:yJ.lookup k=some w)(s t:d3):Q9 [j8 s,j8 t,.str k]=some (.bl (mF s t==w)):=by
 have e:ID [sC (j8 s),sC (j8 t),sC (.str k)]=some (.rt (.bl (mF s t==w))):=by refine lU ((kP (x:=.str (mF s t)) (y:=.str w) ((v8 (ds:=[j8 s,j8 t]) rfl).trans (ý s t)) ?_).trans rfl);show (match yJ.lookup k with|some y=>some (D.str y)|none=>none)=_;rw[hk]
 show lM (ID [sC (j8 s),sC (j8 t),sC (.str k)])=_;rw[e];rfl
def i5(r:List Int)(ts:List d3)(i:Nat):d3:=kC r (ts.getD i (0,0))
def jG(r:List Int)(ts:List d3)(w:Ba)(i j:Nat):Bool:=mF (i5 r ts i) (i5 r ts j)==w
def AM{ts:List d3}{i:Nat}{s:d3}(h:ts[i]?=some s):i5 r ts i=kC r s:=by unfold i5;rw[Cv,h];rfl
def wN{ts:List d3}{j:Nat}(h:j<ts.length):lL (ts.map λt=>j8 (kC r t)) (j:Int)=some (j8 (i5 r ts j)):=by unfold lL;rw[A3,wD h];show (ts.map λt=>j8 (kC r t))[j]?=_;rw[Ao,A4 h,AM (A4 h)];rfl
def EX{r:List Int}{p q:Int}(hp:p∈r)(hq:q∈r)(h:p≠q):kH r p≠kH r q:=λe=>by
 have e':r.idxOf p=r.idxOf q:=by unfold kH at e;omega
 have l1:r.idxOf p<r.length:=B1 hp;have l2:r.idxOf q<r.length:=B1 hq
 have g1:r[r.idxOf p]?=some p:=by rw[A4 l1,Gr]
 have g2:r[r.idxOf q]?=some q:=by rw[A4 l2,Gr]
 rw[e',g2]at g1;exact h (Bi g1).symm
def KW(k w:Ba):Prop:=(k = "pile"/\w = "cross")\/(k = "queue"/\w = "within")
def KW.tab(h:KW k w):yJ.lookup k=some w:=by rcases h with⟨rfl,rfl⟩|⟨rfl,rfl⟩<;>decide +kernel
def KW.meet(h:KW k w):(("meet":Ba)==w)=false:=by rcases h with⟨rfl,rfl⟩|⟨rfl,rfl⟩<;>decide +kernel
def Xf(cl:Nat->Nat->Bool)(k:Nat):qZ cl (k+1)=qZ cl k++((Aa k).filter λi=>cl i k).map λ(i:Nat)=>((i:Int),(k:Int)):=by unfold qZ;rw[Kn,List.flatMap_append,List.flatMap_singleton]
theorem NY(cl:Nat->Nat->Bool):∀k,k<=12->(qZ cl k).length<=k*12
 | 0,_=>by unfold qZ;simp
 |k+1,h=>by
  have ih:=NY cl k ⋯;rw[Xf,Ap,A3]
  have:=Ea (λi=>cl i k) (Aa k)
  rw[At]at this;omega
end P
namespace P
theorem W1{α:Type}[DecidableEq α]:∀(xs ys:List α),xs.Nodup->(∀x∈xs,x∈ys)->xs.length<=ys.length
 | [],_,_,_=>Bh _
 |x::xs,ys,hn,hs=>by
  have bB:=By.mp hn;have p:=List.perm_cons_erase (hs x A6);have ih:=W1 xs (ys.erase x) bB.2 λy hy=>(List.mem_erase_of_ne λ(e:y=x)=>bB.1 (e▸hy)).mpr (hs y (A7 _ hy))
  have:=p.length_eq
  rw[Au]at this ⊢;omega
section
variable{cl:Nat->Nat->Bool}
def PW(cl:Nat->Nat->Bool)(e:List Nat):Prop:=e.Pairwise λi j=>cl i j=true
def GK(cl:Nat->Nat->Bool)(done:List Nat)(cs:List (List Nat)):Prop:=∀c∈cs,PW cl c/\c.Sublist done/\c≠[]
def GK.step{b:List Nat}(h:GK cl done cs)(tr:∀x y,[x,y].Sublist done->cl x y=true->cl y t=true->cl x t=true)(hb:b=[]\/(b∈cs/\∃u,b.getLast?=some u/\cl u t=true)):GK cl (done++[t]) (cs++[b++[t]]):=λc hc=>by
 rcases Az.mp hc with z|z
 .obtain⟨p1,p2,p3⟩:=h c z;exact⟨p1,p2.trans (List.sublist_append_left _ _),p3⟩
 .rw[Ag.mp z];rcases hb with rfl|⟨hbc,u,hu,hut⟩
  .exact⟨Df _ _,Ic (List.nil_sublist _) (Lt _),by simp⟩
  .obtain⟨p1,p2,_⟩:=h b hbc;refine⟨Dy.mpr ⟨p1,Df _ _,λx hx y hy=>?_⟩,Ic p2 (Lt _),by simp⟩;rw[Ag.mp hy];obtain⟨ys,rfl⟩:=I0.mp hu;rcases Az.mp hx with z|z
   .refine tr x u (List.Sublist.trans ?_ p2) ((Dy.mp p1).2.2 x z u (Ag.mpr rfl)) hut;exact Ic (List.singleton_sublist.mpr z) (Lt [u])
   .rw[Ag.mp z];exact hut
structure NR(m:Nat)(cl:Nat->Nat->Bool)(f:List Nat):Prop where
 pw:PW cl f
 nd:f.Nodup
 lt:∀x∈f,x<m
end
end P
namespace P
open PySem L2 L3
def ϟ(s t:d3):mF s t=mF t s:=by
 unfold mF;by_cases h:s.1=t.1\/s.1=t.2\/s.2=t.1\/s.2=t.2
 .rw[y6 h,y6 ⋯]
 .have h':¬(t.1=s.1\/t.1=s.2\/t.2=s.1\/t.2=s.2):=by omega
  rw[y8 h,y8 h'];rcases CZ s t with z|z|z
  .have z':¬jM t s:=λq=>wP z q;rw[y8 z',y6 z,y6 z,y8 z']
  .subst z;exact u3 (.inl rfl) h
  .have z':¬jM s t:=λq=>wP z q;rw[y6 z,y8 z',y8 z',y6 z]
def Um(h:jM s t):mF s t=(if s.1=t.1\/s.1=t.2\/s.2=t.1\/s.2=t.2 then ("meet":Ba) else if s.2<t.1 then ("apart":Ba) else if s.2<t.2 then ("cross":Ba) else ("within":Ba):Ba):=by unfold mF;rw[y8 (λq=>wP h q),y6 h]
def UP(h:jM s t):s.1<=t.1:=by unfold jM at h;omega
def KB(h:jM s t)(hs:s.1<s.2)(ht:t.1<t.2):mF s t = "cross"↔(s.1<t.1/\t.1<s.2/\s.2<t.2):=by
 have hl:=UP h;rw[Um h];by_cases h1:s.1=t.1\/s.1=t.2\/s.2=t.1\/s.2=t.2
 .rw[y6 h1];exact⟨λe=>u3 e ∅,λe=>⋯⟩
 .rw[y8 h1];by_cases h2:s.2<t.1
  .rw[y6 h2];exact⟨λe=>u3 e ∅,λe=>⋯⟩
  .rw[y8 h2];by_cases h3:s.2<t.2
   .rw[y6 h3];exact⟨λ_=>⋯,λ_=>rfl⟩
   .rw[y8 h3];exact⟨λe=>u3 e ∅,λe=>⋯⟩
def Qk(h:jM s t)(hs:s.1<s.2)(ht:t.1<t.2):mF s t = "within"↔(s.1<t.1/\t.2<s.2):=by
 have hl:=UP h;rw[Um h];by_cases h1:s.1=t.1\/s.1=t.2\/s.2=t.1\/s.2=t.2
 .rw[y6 h1];exact⟨λe=>u3 e ∅,λe=>⋯⟩
 .rw[y8 h1];by_cases h2:s.2<t.1
  .rw[y6 h2];exact⟨λe=>u3 e ∅,λe=>⋯⟩
  .rw[y8 h2];by_cases h3:s.2<t.2
   .rw[y6 h3];exact⟨λe=>u3 e ∅,λe=>⋯⟩
   .rw[y8 h3];exact⟨λ_=>⋯,λ_=>rfl⟩
def v02(h1:jM s t)(h2:jM t u)(hs:s.1<s.2)(ht:t.1<t.2)(hu:u.1<u.2)(hg:u.1<s.2)(a:mF s t = "cross")(b:mF t u = "cross"):mF s u = "cross":=by have a':=(KB h1 hs ht).mp a;have b':=(KB h2 ht hu).mp b;exact(KB (PU h1 h2) hs hu).mpr ⋯
structure lA(n:Int)(ts:List d3)(r:List Int):Prop where
 up:ts.Pairwise jM
 ok:∀t∈ts,0<=t.1/\t.1<t.2/\t.2<n
 nd:r.Nodup
 len:(r.length:Int)=n
 mem:∀t∈ts,t.1∈r/\t.2∈r
 n6:n<=6
 m12:ts.length<=12
section
variable{n:Int}{ts:List d3}{r:List Int}{k w:Ba}
def lA.rl(h:lA n ts r):r.length<=1000:=by have:=h.len;have:=h.n6;omega
def lA.hm'(h:lA n ts r):ts.length<=1000:=by have:=h.m12;omega
def Vn(r:List Int)(p:Int):0<=kH r p:=by unfold kH;omega
def Vm{r:List Int}{p:Int}(h:p∈r):kH r p<(r.length:Int):=by
 unfold kH
 have:=B1 h
 omega
def lA.sp(h:lA n ts r){i:Nat}(hi:i<ts.length):∃t∈ts,ts[i]?=some t/\i5 r ts i=kC r t:=
 ⟨ts[i],Bv hi,A4 hi,AM (A4 hi)⟩
def lA.sp_ok(h:lA n ts r){i:Nat}(hi:i<ts.length):0<=(i5 r ts i).1/\(i5 r ts i).1<(i5 r ts i).2/\(i5 r ts i).2<n:=by
 obtain⟨t,ht,_,e⟩:=h.sp hi;rw[e];unfold kC;right;have hm:=h.mem t ht;have am:=EX hm.1 hm.2 (by have:=h.ok t ht;omega)
 have a1:=Vn r t.1;have a2:=Vn r t.2;have b1:=Vm hm.1;have b2:=Vm hm.2
 have:=h.len
 omega
def EY{r:List Int}{p q:Int}(hp:p∈r)(hq:q∈r)(e:kH r p=kH r q):p=q:=by
 by_cases h:p=q
 .exact h
 .exact u3 e (EX hp hq h)
def Vp{a b c d:Int}(h1:Mw a b=Mw c d)(h2:max a b=max c d):(a=c/\b=d)\/(a=d/\b=c):=by
 rcases Ku a b with x|x<;>rcases Ku c d with y|y
 .rw[Ef x,Ef y]at h1;rw[Ej x,Ej y]at h2;exact .inl ⟨h1,h2⟩
 .rw[Ef x,Ei y]at h1;rw[Ej x,F6 y]at h2;exact .inr ⟨h1,h2⟩
 .rw[Ei x,Ef y]at h1;rw[F6 x,Ej y]at h2;exact .inr ⟨h2,h1⟩
 .rw[Ei x,Ei y]at h1;rw[F6 x,F6 y]at h2;exact .inl ⟨h2,h1⟩
def lA.sp_inj(h:lA n ts r){i j:Nat}(hi:i<ts.length)(hj:j<ts.length)(e:i5 r ts i=i5 r ts j):i=j:=by
 obtain⟨s,hs,gs,es⟩:=h.sp hi;obtain⟨t,ht,gt,et⟩:=h.sp hj;rw[es,et]at e;unfold kC at e;have e1:=lE Bo e;have e2:=lE Mk e;dsimp only at e1 e2;have ms:=h.mem s hs;have mt:=h.mem t ht;have os:=h.ok s hs;have ot:=h.ok t ht;have hc:(kH r s.1=kH r t.1/\kH r s.2=kH r t.2)\/(kH r s.1=kH r t.2/\kH r s.2=kH r t.1):=Vp e1 e2
 have est:s=t:=by
  rcases hc with⟨c1,c2⟩|⟨c1,c2⟩
  .exact Op (EY ms.1 mt.1 c1) (EY ms.2 mt.2 c2)
  .have q1:=EY ms.1 mt.2 c1;have q2:=EY ms.2 mt.1 c2;omega
 subst est;have gi:=(B0.mp gs).2;have gj:=(B0.mp gt).2;have pw:=Hz.mp h.up;rcases Lr i j with q|q|q
 .have:=pw i j hi hj q
  rw[gi,gj]at this;exact u3 this (uU _)
 .exact q
 .have:=pw j i hj hi q
  rw[gi,gj]at this;exact u3 this (uU _)
def BW(i j:Nat):jG r ts w i j=jG r ts w j i:=by unfold jG;rw[ϟ]
def AC:jG r ts w i j=true↔mF (i5 r ts i) (i5 r ts j)=w:=by unfold jG;exact beq_iff_eq
def p8(r:List Int)(ts:List d3)(g:Nat)(i:Nat):Bool:=decide ((i5 r ts i).1<=(g:Int))&&decide ((g:Int)<(i5 r ts i).2)
def pX(r:List Int)(ts:List d3)(i j:Nat):Bool:=lV (lQ (i5 r ts i)) (lQ (i5 r ts j))
def kT(r:List Int)(ts:List d3)(g:Nat):List Nat:=((Aa ts.length).filter (p8 r ts g)).isrt (pX r ts)
def S4(g:Nat):(kT r ts g).Perm ((Aa ts.length).filter (p8 r ts g)):=sE _ _
def uS{g i:Nat}:i∈kT r ts g↔i<ts.length/\p8 r ts g i=true:=by rw[(S4 g).mem_iff,B7,Am]
def PF(g:Nat):(kT r ts g).Nodup:=(S4 g).nodup_iff.mpr (D2.sublist Ie)
def lA.sp_up(h:lA n ts r){S:List Nat}(hn:S.Nodup)(hl:∀i∈S,i<ts.length):(S.isrt (pX r ts)).Pairwise λi j=>jM (i5 r ts i) (i5 r ts j):=by
 have h1:(S.isrt (pX r ts)).Pairwise λi j=>pX r ts i j=true:=AH (λa b c h1 h2=>by
  unfold pX lV at h1 h2 ⊢;simp only[Hf]at h1 h2 ⊢
  exact yV _ _ _ h1 h2) (λa b=>by
  unfold pX lV
  have:=wF (i5 r ts a) (i5 r ts b)
  have h2:=wF (i5 r ts b) (i5 r ts a);unfold lQ;rw[this,h2];rcases CZ (i5 r ts a) (i5 r ts b) with z|z|z
  .rw[W4 (λq=>wP z q)];rfl
  .rw[z,W4 (uU _)];rfl
  .rw[W4 (λq=>wP z q)];simp) _
 have pm:=sE S (pX r ts);refine Ii.imp_of_mem (λ{a b} ha hb q=>?_) (h1.and (pm.nodup_iff.mpr hn));obtain⟨q1,q2⟩:=q;unfold pX lV at q1;have l2:=wF (i5 r ts b) (i5 r ts a);unfold lQ at q1;rw[l2]at q1;rcases CZ (i5 r ts a) (i5 r ts b) with z|z|z
 .exact z
 .exact u3 (h.sp_inj (hl a (pm.mem_iff.mp ha)) (hl b (pm.mem_iff.mp hb)) z) q2
 .rw[Y1 z]at q1;cases q1
def lA.tr(h:lA n ts r){done post:List Nat}{t:Nat}(hL:done++t::post=kT r ts g):∀x y,[x,y].Sublist done->jG r ts "cross" x y=true->jG r ts "cross" y t=true->jG r ts "cross" x t=true:=λx y hs h1 h2=>by
 have up:(kT r ts g).Pairwise _:=h.sp_up (D2.sublist Ie) λi hi=>Am.mp (B7.mp hi).1;rw[<-hL]at up
 have sub:[x,y,t].Sublist (done++t::post):=by
  have:([x,y]++[t]).Sublist (done++t::post):=Ic hs (List.singleton_sublist.mpr A6)
  exact this
 have up3:=up.sublist sub;have p1:=D7.mp up3;have p2:=D7.mp p1.2
 have m:∀z∈[x,y,t],z∈kT r ts g:=λz hz=>by rw[<-hL];exact sub.subset hz
 have mx:=uS.mp (m x (by simp));have my:=uS.mp (m y (by simp));have mt:=uS.mp (m t (by simp));have ox:=h.sp_ok mx.1;have oy:=h.sp_ok my.1;have ot:=h.sp_ok mt.1;have gx:=mx.2;have gt:=mt.2;unfold p8 at gx gt;simp only[B8,decide_eq_true_eq]at gx gt;exact AC.mpr (v02 (p1.1 y (by simp)) (p2.1 t (by simp)) ox.2.1 oy.2.1 ot.2.1 ⋯ (AC.mp h1) (AC.mp h2))
end
def x5(i:Nat):D:=.int (i:Int)
def kI(c:List Nat):D:=.tup (c.map x5)
def Z8(r:List Int)(ts:List d3):D:=.lst (ts.map λt=>j8 (kC r t))
def È{j:Nat}(h:j<=100000):nG (j:Int)=true:=by unfold nG;rw[Y1 ⋯,Y1 ⋯];rfl
def AL{fa:ED}{j:Nat}(h:fa Y=some (.int (j:Int)))(hj:j<=100000):kF fa Y=some ((Aa j).map x5):=by rw[AE h (È hj),Av];unfold Q6;congr 1;refine B6 λq _=>?_;rw[Mr];rfl
def yU{p:D->Bool}{q:Nat->Bool}(l:List Nat)(h:∀i∈l,p (x5 i)=q i):(l.map x5).filter p=(l.filter q).map x5:=by rw[Mv];congr 1;exact List.filter_congr λi hi=>h i hi
theorem CC{fb:ED}{Y:J5}{f:D->D}:∀(ds:List D),(∀d∈ds,fb (Y.set 0 (sC d))=some (f d))->pB fb Y ds=some (ds.map f)
 | [],_=>rfl
 |d::ds,h=>by unfold pB;rw[h d A6];right;rw[CC ds λx hx=>h x (A7 _ hx)];rfl
section
variable{n:Int}{ts:List d3}{r:List Int}{k w:Ba}
def XY(S:List Nat):xB lV (S.map λi=>lQ (i5 r ts i)) (S.map x5)=(S.isrt (pX r ts)).map x5:=by
 unfold xB
 have e:(S.map λi=>lQ (i5 r ts i)).zip (S.map x5)=S.map λi=>(lQ (i5 r ts i),x5 i):=by
  induction S with
  |nil=>rfl
  |cons a S ih=>rw[Ai,Ai,Ey,ih];rfl
 rw[e]
 have:=Sz (r:=pX r ts) (s:=λ(a b:List Int×D)=>lV a.1 b.1) (f:=λi=>(lQ (i5 r ts i),x5 i)) (l:=S) (λa _ b _=>rfl)
 rw[<-this,B2];rfl
theorem Th(h:lA n ts r){S:List Nat}(hn:S.Nodup)(hl:∀i∈S,i<ts.length):FK (S.map λi=>j8 (i5 r ts i)) (S.map x5)=some ((S.isrt (pX r ts)).map x5):=by
 have ab:S.length<64:=by
  have:=W1 S (Aa ts.length) hn λi hi=>Am.mpr (hl i hi)
  rw[At]at this
  have:=h.m12
  omega
 unfold FK;rw[y6 (by rw[A3];exact ab)]
 cases S with
 |nil=>rfl
 |cons a S=>
  have e1:lJ ((a::S).map λi=>j8 (i5 r ts i))=none:=rfl
  have e2:mP ((a::S).map λi=>j8 (i5 r ts i))=some ((a::S).map λi=>lQ (i5 r ts i)):=by
   have:=DJ (nss:=(a::S).map λi=>lQ (i5 r ts i)) (λns h=>by
    obtain⟨u,_,rfl⟩:=Aq.mp h
    simp[lQ])
   rw[B2]at this;exact this
  have e3:((a::S).map λi=>lQ (i5 r ts i)).Nodup:=by refine Bu.mpr (Ii.imp_of_mem (λ{x y} hx hy hxy z=>hxy ?_) hn);refine h.sp_inj (hl x hx) (hl y hy) ?_;unfold lQ at z;have z1:=(M7 z).1;have z2:=(M7 (M7 z).2).1;exact Op z1 z2
  rw[e1];right;rw[e2];right;rw[y6 e3,XY]
def Xu(h:lA n ts r)(g:Nat):DL [Z8 r ts,.int (g:Int)]=some (.lst ((kT r ts g).map x5)):=by
 have e1:Q5 [none,some 0,some 1] (kF (kE (b9 (y3 0)))) (u4 0) (u0 (qS rN MT (i3 (b9 (i3 (b9 (y3 1)) (y3 0))) (dI 0)) (y3 2) (i3 (b9 (i3 (b9 (y3 1)) (y3 0))) (dI 1)))) (y3 0)
   [sC (Z8 r ts),sC (.int (g:Int)),none]=some (((Aa ts.length).filter (p8 r ts g)).map x5):=by
  have e0:kF (kE (b9 (y3 0))) [sC (Z8 r ts),sC (.int (g:Int)),none]=some ((Aa ts.length).map x5):=by
   refine AL ?_ (by have:=h.m12;omega)
   refine(p7 (ds:=ts.map λt=>j8 (kC r t)) (nU rfl)).trans ?_;rw[A3]
  refine(nM e0 (by rw[A3,At];have:=h.m12;unfold f8;omega)).trans ?_
  refine(W6 (λY=>∃c0,Y=[c0,sC (Z8 r ts),sC (.int (g:Int))]) (λd=>match d with|.int i=>p8 r ts g i.toNat|_=>false) (λd=>d) _ _ ⟨none,rfl⟩ ?_).trans ?_
  .rintro d hd Y ⟨c0,rfl⟩;obtain⟨i,hi,rfl⟩:=Aq.mp hd;have bL:i<ts.length:=Am.mp hi;refine⟨_,rfl,⟨_,rfl⟩,?_,λ_=>rfl⟩;have at':i3 (b9 (y3 1)) (y3 0) [sC (x5 i),sC (Z8 r ts),sC (.int (g:Int))]=some (j8 (i5 r ts i)):=(lN (ds:=ts.map λt=>j8 (kC r t)) (j:=(i:Int)) (nU rfl) rfl).trans (wN bL);refine W5 (Sn (x:=.int (i5 r ts i).1) (y:=.int (g:Int)) (z:=.int (i5 r ts i).2) (a:=decide ((i5 r ts i).1<=(g:Int))) (b:=decide ((g:Int)<(i5 r ts i).2)) ?_ rfl rfl (λ_=>?_) (λ_=>rfl))
   .exact(lN (ds:=[.int (i5 r ts i).1,.int (i5 r ts i).2]) (j:=0) (rZ at') rfl).trans rfl
   .exact(lN (ds:=[.int (i5 r ts i).1,.int (i5 r ts i).2]) (j:=1) (rZ at') rfl).trans rfl
  .rw[yU (q:=p8 r ts g) _ (λi _=>rfl),Kw]
 have e2:HD [sC (Z8 r ts),sC (.int (g:Int)),none]=some (.rt (.lst ((kT r ts g).map x5))):=by
  refine v9 (Q8 (oE e1)) (lU (oE ?_));show qT [none,some 0] (b9 (y3 2)) (i3 (b9 (y3 1)) (y3 0)) [sC (Z8 r ts),sC (.int (g:Int)),sC (.lst (((Aa ts.length).filter (p8 r ts g)).map x5))]=some ((kT r ts g).map x5);have lt:∀i∈(Aa ts.length).filter (p8 r ts g),i<ts.length:=λi hi=>Am.mp (B7.mp hi).1;have nd:((Aa ts.length).filter (p8 r ts g)).Nodup:=D2.sublist Ie
  unfold kT;generalize (Aa ts.length).filter (p8 r ts g)=S at lt nd
  have hm:pB (i3 (b9 (y3 1)) (y3 0)) [none,sC (Z8 r ts)] (S.map x5)=some (S.map λi=>j8 (i5 r ts i)):=by
   refine(CC (f:=λd=>match d with|.int i=>j8 (i5 r ts i.toNat)|_=>d) _ λd hd=>?_).trans ?_
   .obtain⟨i,hi,rfl⟩:=Aq.mp hd;exact(lN (ds:=ts.map λt=>j8 (kC r t)) (j:=(i:Int)) (nU rfl) rfl).trans (wN (lt i hi))
   .rw[B2];rfl
  unfold qT;rw[show b9 (y3 2) [sC (Z8 r ts),sC (.int (g:Int)),sC (.lst (S.map x5))]=some (S.map x5) from rfl];right;rw[show mD [none,some 0] [sC (Z8 r ts),sC (.int (g:Int)),sC (.lst (S.map x5))]=[none,sC (Z8 r ts)] from rfl,hm];exact Th h nd lt
 show lM (HD [sC (Z8 r ts),sC (.int (g:Int)),none])=_;rw[e2];rfl
def Uk(c:List Nat):BE (kI c)=some (c.length:Int):=by show some ((c.map x5).length:Int)=_;rw[A3]
theorem Rz:∀cs:List (List Nat),pL (cs.map kI)=some (cs.map λc=>(c.length:Int))
 | []=>rfl
 |c::cs=>by rw[Ai];unfold pL;rw[Uk c];right;rw[Rz cs];rfl
theorem LG(gt:Nat->Nat->Bool):∀q j b:Nat,b<j->W7 gt q j b<j+q
 | 0,j,b,hb=>hb
 |q+1,j,b,hb=>by
  unfold W7;rw[show j+(q+1)=j+1+q by omega];split
  .exact LG gt q (j+1) j ⋯
  .exact LG gt q (j+1) b ⋯
theorem Py(cs:List (List Nat)):∃b,xD (cs.map kI) (kI [])=some (kI b)/\(b=[]\/b∈cs):=by
 unfold xD;rw[Rz];right
 cases cs with
 |nil=>exact⟨[],rfl,.inl rfl⟩
 |cons c cs=>
  rw[Ai];right;rw[<-Ai];unfold rA;have h1:=LG (rT ((c::cs).map λc=>(c.length:Int))) (((c::cs).map kI).length-1) 1 0 ⋯;generalize W7 (rT ((c::cs).map λc=>(c.length:Int))) (((c::cs).map kI).length-1) 1 0=b at h1;rw[A3,Au]at h1
  have h1:b<(c::cs).length:=by rw[Au];omega
  refine⟨(c::cs)[b],?_,.inr (Bv h1)⟩;rw[Ao,A4 h1];rfl
def ų{c:List Nat}{u:Nat}(h:c.getLast?=some u)(hc:c.length<=1000):lL (c.map x5) (-1)=some (x5 u):=by
 obtain⟨ys,rfl⟩:=I0.mp h;unfold lL qO;rw[y8 ⋯,y6 (by rw[A3,Ap,Bg];omega)]
 show ((ys++[u]).map x5)[(-1+(((ys++[u]).map x5).length:Int)).toNat]?=_;rw[A3,Ap,Bg,show (-1+((ys.length+1:Nat):Int)).toNat=ys.length by omega,Ao];simp
def rX(r:List Int)(ts:List d3)(w:Ba)(t:Nat)(c:List Nat):Bool:=match c.getLast? with|some u=>jG r ts w u t|none=>false
def Ul:EO:=J6 (i4 5 (lG (Q5 [none,some 0,some 4,some 2] (kK 3) (u4 0) (u0 (x8 Q9 (z9 (i3 (b9 (y3 1)) (i3 (b9 (y3 0)) (rO (dI 1)))) (z9 (i3 (b9 (y3 1)) (y3 2)) (kM 3))))) (y3 0))))
 (qK 3 (d2 jE (AD (b9 (y3 5)) (jP Q7)) (jP (kM 4))))
def Yp(h:lA n ts r)(hk:KW k w){cs:List (List Nat)}{t:Nat}{c5:Option Cell}(ht:t<ts.length)(dv:cs.length<=12)(hc:∀c∈cs,c≠[]/\c.length<=12/\∀x∈c,x<ts.length):
  ∃b,(b=[]\/b∈cs.filter (rX r ts w t))/\Ul [sC (Z8 r ts),sC tiesD,sC (.str k),some (.ow (cs.map kI)),sC (x5 t),c5] =
   some (.nx [sC (Z8 r ts),sC tiesD,sC (.str k),some (.ow ((cs++[b++[t]]).map kI)),sC (x5 t),sC (.lst ((cs.filter (rX r ts w t)).map kI))]):=by
 have e1:Q5 [none,some 0,some 4,some 2] (kK 3) (u4 0) (u0 (x8 Q9 (z9 (i3 (b9 (y3 1)) (i3 (b9 (y3 0)) (rO (dI 1)))) (z9 (i3 (b9 (y3 1)) (y3 2)) (kM 3))))) (y3 0)
   [sC (Z8 r ts),sC tiesD,sC (.str k),some (.ow (cs.map kI)),sC (x5 t),c5]=some ((cs.filter (rX r ts w t)).map kI):=by
  refine(nM (ds:=cs.map kI) rfl (by rw[A3];unfold f8;omega)).trans ?_
  refine(W6 (λY=>∃c0,Y=[c0,sC (Z8 r ts),sC (x5 t),sC (.str k)]) (λd=>match d with|.tup ds=>(match ds.getLast? with|some (.int u)=>jG r ts w u.toNat t|_=>false)|_=>false) (λd=>d) _ _ ⟨none,rfl⟩ ?_).trans ?_
  .rintro d hd Y ⟨c0,rfl⟩;obtain⟨c,hcm,rfl⟩:=Aq.mp hd;obtain⟨h1,h2,h3⟩:=hc c hcm;refine⟨_,rfl,⟨_,rfl⟩,?_,λ_=>rfl⟩
   cases hl:c.getLast? with
   |none=>exact u3 (List.getLast?_eq_none_iff.mp hl) h1
   |some u=>
    have hu:u<ts.length:=h3 u (List.mem_of_getLast? hl)
    have el:(c.map x5).getLast?=some (x5 u):=by obtain⟨ys,rfl⟩:=I0.mp hl;simp
    show u0 _ _=some (match (c.map x5).getLast? with|some (.int u)=>jG r ts w u.toNat t|_=>false);rw[el];show u0 _ _=some (jG r ts w u t);refine W5 ?_;have a0:i3 (b9 (y3 0)) (rO (dI 1)) [sC (kI c),sC (Z8 r ts),sC (x5 t),sC (.str k)]=some (x5 u):=(lN (ds:=c.map x5) (j:=-1) (rZ rfl) rfl).trans (ų hl ⋯);have a1:i3 (b9 (y3 1)) (i3 (b9 (y3 0)) (rO (dI 1))) [sC (kI c),sC (Z8 r ts),sC (x5 t),sC (.str k)]=some (j8 (i5 r ts u)):=(lN (ds:=ts.map λt=>j8 (kC r t)) (j:=(u:Int)) (nU rfl) a0).trans (wN hu)
    have a2:i3 (b9 (y3 1)) (y3 2) [sC (kI c),sC (Z8 r ts),sC (x5 t),sC (.str k)]=some (j8 (i5 r ts t)):=(lN (ds:=ts.map λt=>j8 (kC r t)) (j:=(t:Int)) (nU rfl) rfl).trans (wN ht);exact(v8 (u7 a1 (u7 a2 (u7 (d:=.str k) rfl rfl)))).trans (P3 hk.tab _ _)
  .rw[Kw,Mv];refine lE (λl=>some (List.map kI l)) (List.filter_congr λc hcm=>?_);show (match (c.map x5).getLast? with|some (.int u)=>jG r ts w u.toNat t|_=>false)=rX r ts w t c;unfold rX;rw[List.getLast?_map]
   cases c.getLast? with
   |none=>rfl
   |some u=>rfl
 obtain⟨b,eb,hb⟩:=Py (cs.filter (rX r ts w t));refine⟨b,hb,?_⟩
 have hbl:b.length<=12:=by
  rcases hb with rfl|hb
  .exact Bh _
  .exact(hc b (B7.mp hb).1).2.1
 refine v9 (Q8 (oE e1)) ?_;refine(KO (ds:=cs.map kI) (d:=kI (b++[t])) rfl ?_ (by rw[A3];unfold f8;omega)).trans ?_
 .refine(kP (x:=kI b) (y:=kI [t]) ?_ (nV (ds:=[x5 t]) rfl (show 1<=f8 by decide))).trans ?_
  .show xD ((cs.filter (rX r ts w t)).map kI) (kI [])=some (kI b);exact eb
  .show (if (b.map x5).length+([t].map x5).length<=f8 then some (D.tup (b.map x5++[t].map x5)) else none)=_;rw[y6 (by rw[A3,A3,Bg];unfold f8;omega),<-B9]
   rfl
 .rw[B9];rfl
theorem ZM:rX r ts w t c=true↔∃u,c.getLast?=some u/\jG r ts w u t=true:=by
 unfold rX
 cases c.getLast? with
 |none=>exact⟨(λe=>by cases e),(λ⟨u,e,_⟩=>by cases e)⟩
 |some v=>exact⟨λe=>⟨v,rfl,e⟩,λ⟨u,e,q⟩=>by cases e;exact q⟩
def VJ(h:lA n ts r)(g:Nat):∃b:List Nat,DV [Z8 r ts,.lst ((kT r ts g).map x5),.str "pile"]=some (kI b) /\
  PW (jG r ts "cross") b/\b.Sublist (kT r ts g):=by
 have hL:(kT r ts g).length<=12:=by
  have:=W1 (kT r ts g) (Aa ts.length) (PF g) λi hi=>Am.mpr (uS.mp hi).1
  rw[At]at this
  have:=h.m12
  omega
 obtain⟨Y',l1,cs,c4,c5,bI,ar,rfl⟩:=yW (h:=u4 4) (g:=Ul) (λpre Y=>∃cs c4 c5,GK (jG r ts "cross") ((kT r ts g).take pre.length) cs/\cs.length=pre.length /\
   Y=[sC (Z8 r ts),sC (.lst ((kT r ts g).map x5)),sC (.str "pile"),some (.ow (cs.map kI)),c4,c5])
  (ds:=(kT r ts g).map x5) (Y:=[sC (Z8 r ts),sC (.lst ((kT r ts g).map x5)),sC (.str "pile"),some (.ow []),none,none]) ⟨[],none,none,(λc hc=>by cases hc),rfl,rfl⟩ (λpre d post Y he hI=>by
   obtain⟨cs,c4,c5,bI,ar,rfl⟩:=hI;have ab:=lE Kb he;rw[A3,Ap,Au]at ab
   have ak:pre.length<(kT r ts g).length:=by omega
   have hd:d=x5 (kT r ts g)[pre.length]:=by
    have h1:((kT r ts g).map x5)[pre.length]?=some d:=by rw[<-he];simp
    rw[Ao,A4 ak]at h1;exact(Bi h1).symm
   have ht:=(uS.mp (Bv ak)).1
   have dM:(kT r ts g).take pre.length++(kT r ts g)[pre.length]::(kT r ts g).drop (pre.length+1)=kT r ts g:=by rw[<-Fs ak,Fp]
   have bx:(kT r ts g).take (pre.length+1)=(kT r ts g).take pre.length++[(kT r ts g)[pre.length]]:=(List.take_append_getElem ak).symm;generalize (kT r ts g)[pre.length]=t at hd ht dM bx;subst hd
   have hok:∀c∈cs,c≠[]/\c.length<=12/\∀x∈c,x<ts.length:=λc hc=>by obtain⟨_,q2,q3⟩:=bI c hc;have q4:c.Sublist (kT r ts g):=q2.trans (Lg _ _);exact⟨q3,C7 q4.length_le hL,λx hx=>(uS.mp (q4.subset hx)).1⟩
   obtain⟨b,hb,e⟩:=Yp h (.inl ⟨rfl,rfl⟩) (tiesD:=.lst ((kT r ts g).map x5)) (cs:=cs) (t:=t) (c5:=c5) ht ⋯ hok;refine⟨_,_,rfl,.inl e,⟨cs++[b++[t]],_,_,?_,?_,rfl⟩⟩
   .rw[Ap,Bg,bx];exact bI.step (h.tr dM) (hb.imp id λhb=>⟨(B7.mp hb).1,ZM.mp (B7.mp hb).2⟩)
   .rw[Ap,Ap,ar];rfl)
 rw[A3,Jw]at bI;obtain⟨b,eb,hb⟩:=Py cs;refine⟨b,?_,hb.elim (λz=>by rw[z];exact⟨El,List.nil_sublist _⟩) λhb=>⟨(bI b hb).1,(bI b hb).2.1⟩⟩
 refine nP (x:=OR [sC (Z8 r ts),sC (.lst ((kT r ts g).map x5)),sC (.str "pile"),none,none,none]) ?_;refine v9 (wC (ds:=[]) rfl) ?_;refine v9 ((oZ (ds:=(kT r ts g).map x5) rfl).trans l1) ?_;refine lU ?_;show xD (cs.map kI) (kI [])=some (kI b);exact eb
def Ă(a b:List Nat):wH (kI a) (kI b)=some (kI (if a.length<b.length then b else a)):=by
 have e:=Uk;unfold wH;rw[e a,e b];right;by_cases hc:a.length<b.length
 .rw[y6 hc,y6 ⋯]
 .rw[y8 hc,y8 ⋯]
theorem BY:∀f:List Nat,lJ (f.map x5)=some (f.map λ(i:Nat)=>(i:Int))
 | []=>rfl
 |a::f=>by
  rw[Ai];unfold x5 lJ
  have:=BY f
  unfold x5 at this;rw[this];rfl
def WO(h:lA n ts r):∃(ds:List D) (f:List Nat),DA [d9 n ts,.tup (r.map D.int),.str "pile"]=some (.tup ds)/\ds.length=f.length/\NR ts.length (jG r ts "cross") f:=by
 have hs:=HM (n:=n) h.nd h.rl h.hm' h.mem
 have hlo:0<=n:=by have:=h.len;omega
 have h6:=h.n6
 obtain⟨Y',l1,f,c5,hg,rfl⟩:=yW (h:=u4 5) (g:=i4 4 (d2 wH (y3 4) (x8 DV (z9 (y3 3) (z9 (x8 DL (jQ 3 5)) (kM 2))))))
  (λpre Y=>∃f c5,NR ts.length (jG r ts "cross") f/\Y=[sC (d9 n ts),sC (.tup (r.map D.int)),sC (.str "pile"),sC (Z8 r ts),sC (kI f),c5])
  (ds:=Q6 0 (n-1).toNat) (Y:=[sC (d9 n ts),sC (.tup (r.map D.int)),sC (.str "pile"),sC (Z8 r ts),sC (kI []),none]) ⟨[],none,⟨El,El,λx h=>by cases h⟩,rfl⟩ (λpre d post Y he hI=>by
   obtain⟨f,c5,hg,rfl⟩:=hI;obtain⟨g,_,rfl⟩:=Pk (show d∈Q6 0 _ by rw[<-he];simp)
   obtain⟨b,e,b1,b2⟩:=VJ h g;refine⟨_,_,rfl,.inl (Q8 (d:=kI (if f.length<b.length then b else f)) ?_),⟨_,_,?_,rfl⟩⟩
   .refine(kP (x:=kI f) (y:=kI b) rfl ?_).trans (Ă f b);refine(v8 (ds:=[Z8 r ts,.lst ((kT r ts g).map x5),.str "pile"]) (u7 rfl (u7 ?_ rfl))).trans e;exact(v8 (ds:=[Z8 r ts,.int (g:Int)]) rfl).trans (Xu h _)
   .split
    .exact⟨b1,(PF _).sublist b2,λx hx=>(uS.mp (b2.subset hx)).1⟩
    .exact hg)
 have hfl:=W1 f (Aa ts.length) hg.nd λi hi=>Am.mpr (hg.lt i hi);have m12:=h.m12;rw[At]at hfl;refine⟨(vJ (f.map λ(i:Nat)=>(i:Int))).map D.int,f,?_,by rw[A3,(GW _).length_eq,A3],hg⟩;refine nP (x:=Qb [sC (d9 n ts),sC (.tup (r.map D.int)),sC (.str "pile"),none,none,none]) ?_;refine v9 (Q8 ((v8 (ds:=[d9 n ts,.tup (r.map D.int)]) rfl).trans hs)) ?_
 refine v9 (Q8 (d:=kI []) (nV (ds:=[]) rfl (show 0<=f8 by decide))) ?_;refine v9 ((oZ (ds:=Q6 0 (n-1).toNat) (AE (j:=n-1) ((kP (x:=.int n) (y:=.int 1) rfl rfl).trans rfl) (by unfold nG;rw[Y1 ⋯,Y1 ⋯];rfl))).trans l1) ?_
 refine lU (qV ((xS (ds:=f.map x5) (rZ rfl)).trans ?_));unfold lO;rw[y6 (by rw[A3];omega),BY]
end
end P
namespace P
open PySem L2
section
variable{cl:Nat->Nat->Bool}
structure GJ(cl:Nat->Nat->Bool)(m:Nat)(c:Nat->Nat)(K:Nat):Prop where
 lt:∀i,i<m->c i<K
 ne:∀i j,i<m->j<m->cl i j=true->c i≠c j
structure kL(cl:Nat->Nat->Bool)(G:List Nat)(K u:Nat)(P:List (Nat×Nat)):Prop where
 nd:(P.map Bo).Nodup
 sub:∀x∈P,x.1∈G
 ok:∀x∈P,∀y∈P,cl x.1 y.1=true->x.2≠y.2
 use:∀v,(∃x∈P,x.2=v)↔v<u
 uK:u<=K
structure mU(cl:Nat->Nat->Bool)(G:List Nat)(c:Nat->Nat)(K:Nat):Prop where
 lt:∀i∈G,c i<K
 ne:∀i∈G,∀j∈G,cl i j=true->c i≠c j
def yB(c:Nat->Nat)(P:List (Nat×Nat)):Prop:=∀x∈P,c x.1=x.2
variable{G:List Nat}{K u:Nat}{P:List (Nat×Nat)}
def kL.zero:kL cl G K 0 []:=⟨Ep,λx h=>by simp at h,λx h=>by simp at h,λv=>⟨λ⟨x,h,_⟩=>by simp at h,λh=>⋯⟩,Bh _⟩
def kL.add(h:kL cl G K u P)(hs:∀i j,cl i j=cl j i)(hr:∀i,cl i i=false){t v:Nat}(ht:t∈G)(hn:t∉P.map Bo)(hv:v<=u)(hK:v<K)(bt:∀x∈P,cl t x.1=true->x.2≠v):
  kL cl G K (if v=u then u+1 else u) (P++[(t,v)]):=by
 refine⟨?_,λx hx=>?_,λx hx y hy hc=>?_,λw=>?_,by have:=h.uK;split<;>omega⟩
 .rw[B9,Cq];refine⟨h.nd,by simp,λa ha b hb e=>?_⟩
  have:b=t:=by simpa using hb
  exact hn (this▸e▸ha)
 .rcases Az.mp hx with z|z
  .exact h.sub x z
  .rw[Ag.mp z];exact ht
 .rcases Az.mp hx with z|z<;>rcases Az.mp hy with z'|z'
  .exact h.ok x z y z' hc
  .rw[Ag.mp z']at hc ⊢;exact bt x z (by rw[hs];exact hc)
  .rw[Ag.mp z]at hc ⊢;exact λe=>bt y z' hc e.symm
  .rw[Ag.mp z,Ag.mp z']at hc;rw[hr]at hc;cases hc
 .constructor
  .rintro ⟨x,hx,rfl⟩;rcases Az.mp hx with z|z
   .have:=(h.use x.2).mp ⟨x,z,rfl⟩
    split<;>omega
   .rw[Ag.mp z];show v<_
    split<;>omega
  .intro hw;by_cases c:w=v
   .exact⟨(t,v),Ab _ (Ag.mpr rfl),c.symm⟩
   .obtain⟨x,hx,e⟩:=(h.use w).mpr (by split at hw<;>omega)
    exact⟨x,Bn _ hx,e⟩
def kL.try(h:kL cl G K u P)(hc:mU cl G c K)(he:yB c P){t:Nat}(ht:t∈G)(hn:t∉P.map Bo):
  ∃v,v<=u/\v<K/\(∀x∈P,cl t x.1=true->x.2≠v)/\∃c',mU cl G c' K/\yB c' (P++[(t,v)]):=by
 have av:∀c:Nat->Nat,mU cl G c K->yB c P->c t<=u->∃v,v<=u/\v<K/\(∀x∈P,cl t x.1=true->x.2≠v)/\∃c',mU cl G c' K/\yB c' (P++[(t,v)]):=λc hc he hu=>by
  refine⟨c t,hu,hc.lt t ht,λx hx ar e=>hc.ne t ht x.1 (h.sub x hx) ar (by rw[he x hx,e]),c,hc,λx hx=>?_⟩;rcases Az.mp hx with z|z
  .exact he x z
  .rw[Ag.mp z]
 by_cases hu:c t<=u
 .exact av c hc he hu
 .let sw:Nat->Nat:=λv=>if v=u then c t else if v=c t then u else v
  have inj:∀a b,sw a=sw b->a=b:=λa b e=>by simp only[sw]at e;split at e<;>split at e<;>(try split at e)<;>(try split at e)<;>omega
  refine av (λi=>sw (c i)) ⟨λi hi=>?_,λi hi j hj ar e=>hc.ne i hi j hj ar (inj _ _ e)⟩ (λx hx=>?_) ?_
  .have:=hc.lt i hi
   have:=hc.lt t ht
   show (if c i=u then c t else if c i=c t then u else c i)<K;split
   .omega
   .split<;>omega
  .have hv:=(h.use x.2).mp ⟨x,hx,rfl⟩;show (if c x.1=u then c t else if c x.1=c t then u else c x.1)=x.2;rw[he x hx,y8 ⋯,y8 ⋯]
  .show (if c t=u then c t else if c t=c t then u else c t)<=u;rw[y8 ⋯,y6 rfl];exact Ad _
def kL.full(h:kL cl G K u P)(hG:G.Nodup)(hl:P.length=G.length):∀t∈G,t∈P.map Bo:=λt ht=>by
 by_cases c:t∈P.map Bo
 .exact c
 .exfalso;have aB:(t::P.map Bo).Nodup:=By.mpr ⟨c,h.nd⟩
  have bU:∀x∈t::P.map Bo,x∈G:=λx hx=>by
   rcases Ac.mp hx with z|z
   .rw[z];exact ht
   .obtain⟨y,hy,rfl⟩:=Aq.mp z;exact h.sub y hy
  have:=W1 _ _ aB bU
  rw[Au,A3]at this;omega
end
end P
namespace P
open PySem L2 L3
def jH(P:List (Nat×Nat)):List d4:=P.map λx=>(Cf (x.1:Int):d4)
def jU(P:List (Nat×Nat)):List D:=P.map λx=>x5 x.2
def jI(P:List (Nat×Nat)):D:=.dct (jH P) (jU P)
theorem wG(t:Nat):∀P:List (Nat×Nat),lD (jH P) (jU P) (Cf (t:Int))=(P.lookup t).map x5
 | []=>rfl
 | (a,b)::P=>by
  show (if (Cf (a:Int):d4)=Cf (t:Int) then some (x5 b) else lD (jH P) (jU P) (Cf (t:Int)))=_;rw[Bq,wG t P];by_cases h:a=t
  .subst h;rw[y6 rfl,beq_self_eq_true];rfl
  .rw[y8 (λz=>h (by have:=Gk z;omega)),show (t==a)=false from by rw[beq_eq_false_iff_ne];exact Cz h]
theorem CB{P:List (Nat×Nat)}(hn:(P.map Bo).Nodup){t v:Nat}:P.lookup t=some v↔(t,v)∈P:=by
 induction P with
 |nil=>simp
 |cons x P ih=>
  obtain⟨a,b⟩:=x;rw[Ai]at hn;have bB:=By.mp hn;rw[Bq];by_cases h:t=a
  .subst h;rw[beq_self_eq_true];constructor
   .intro z;cases z;exact A6
   .intro z;rcases Ac.mp z with y|y
    .rw[(Kf y).2]
    .exact u3 (Cd (f:=Bo) y) bB.1
  .rw[show (t==a)=false from by rw[beq_eq_false_iff_ne];exact h]
   right;rw[ih bB.2,Ac];exact⟨.inr,λz=>z.elim (λy=>u3 (Kf y).1 h) id⟩
theorem wU{P:List (Nat×Nat)}:(P.lookup t).isSome=decide (t∈P.map Bo):=by
 induction P with
 |nil=>rfl
 |cons x P ih=>
  obtain⟨a,b⟩:=x;rw[Bq,Ai];by_cases h:t=a
  .subst h;rw[beq_self_eq_true,Y1 A6];rfl
  .rw[show (t==a)=false from by rw[beq_eq_false_iff_ne];exact h]
   right;rw[ih];refine decide_eq_decide.mpr ⟨A7 _,λz=>(Ac.mp z).elim (λy=>u3 y h) id⟩
def CV{P:List (Nat×Nat)}(h:(P.map Bo).Nodup):(jH P).Nodup:=by unfold jH;rw[Nw,Bu]at *;exact h.imp λ{a b} q z=>q (by have:=Gk z;omega)
def Ð{P:List (Nat×Nat)}{t:Nat}(h:t∉P.map Bo):(Cf (t:Int):d4)∉jH P:=λz=>by
 obtain⟨x,hx,e⟩:=Aq.mp z
 have:x.1=t:=by have:=Gk e;omega
 exact h (this▸Cd hx)
def FB{P:List (Nat×Nat)}{t v:Nat}(h:t∉P.map Bo):lI (jH P) (jU P) (Cf (t:Int)) (x5 v)=(jH (P++[(t,v)]),jU (P++[(t,v)])):=by
 rw[CF _ _ _ _ (by unfold jH jU;rw[A3,A3]) (Ð h)]
 unfold jH jU;rw[B9,B9];rfl
def jL(R:Nat->List Nat)(m:Nat):D:=.lst ((Aa m).map λi=>.lst ((R i).map x5))
def ML{R:Nat->List Nat}{m t:Nat}(h:t<m):lL ((Aa m).map λi=>D.lst ((R i).map x5)) (t:Int)=some (.lst ((R t).map x5)):=by unfold lL;rw[A3,At,wD h];show ((Aa m).map λi=>D.lst ((R i).map x5))[t]?=_;rw[Ao,F8 h];rfl
def lW(R:Nat->List Nat)(P:List (Nat×Nat))(t:Nat):List Nat:=((R t).filter λj=>decide (j∈P.map Bo)).map λj=>(P.lookup j).getD 0
def CY{P:List (Nat×Nat)}(hn:(P.map Bo).Nodup){t v:Nat}:v∈lW R P t↔∃x∈P,x.1∈R t/\x.2=v:=by
 unfold lW;rw[Aq];constructor
 .rintro ⟨j,hj,rfl⟩;obtain⟨h1,h2⟩:=B7.mp hj
  have h3:(P.lookup j).isSome=true:=by rw[wU];exact h2
  obtain⟨v,hv⟩:=Ds.mp h3;exact⟨(j,v),(CB hn).mp hv,h1,by rw[hv];rfl⟩
 .rintro ⟨⟨j,v'⟩,hx,h1,rfl⟩;refine⟨j,B7.mpr ⟨h1,Y1 (Cd (f:=Bo) hx)⟩,?_⟩;rw[(CB hn).mpr hx];rfl
def TF{α:Type}{f g:J5->Option α}(h:f Y=none):nN f g Y=g Y:=by unfold nN;rw[h]
def GO{R:Nat->List Nat}{m t:Nat}(ht:t<m)(hl:(R t).length<=1000):J8 [jL R m,jI P,x5 t]=some (.lst ((lW R P t).map x5)):=by
 refine nP (x:=OU [sC (jL R m),sC (jI P),sC (x5 t)]) ?_;refine lU (oE ((nM (ds:=(R t).map x5) (nU ((lN (ds:=(Aa m).map λi=>D.lst ((R i).map x5)) (j:=(t:Int)) rfl rfl).trans (ML ht))) (by rw[A3];unfold f8;omega)).trans ?_))
 refine(W6 (λY=>∃c,Y=[c,sC (jI P)]) (λd=>match d with|.int x=>(P.lookup x.toNat).isSome|_=>false) (λd=>match d with|.int x=>x5 ((P.lookup x.toNat).getD 0)|_=>.non) _ _ ⟨none,rfl⟩ ?_).trans ?_
 .rintro d hd Y ⟨c,rfl⟩;obtain⟨j,hj,rfl⟩:=Aq.mp hd;have lk:lD (jH P) (jU P) (Cf (j:Int))=(P.lookup j).map x5:=wG j P;refine⟨_,rfl,⟨_,rfl⟩,(TF rfl).trans (W5 ?_),λhh=>?_⟩
  .show some (D.bl (lD (jH P) (jU P) (Cf (j:Int))).isSome)=some (D.bl (P.lookup (j:Int).toNat).isSome);rw[lk,Av,G4]
  .show lD (jH P) (jU P) (Cf (j:Int))=some (x5 ((P.lookup (j:Int).toNat).getD 0))
   have hh':(P.lookup j).isSome=true:=by
    have:(P.lookup (j:Int).toNat).isSome=true:=hh
    rw[Av]at this;exact this
   obtain⟨v,hv⟩:=Ds.mp hh';rw[lk,Av,hv];rfl
 .rw[yU (q:=λj=>decide (j∈P.map Bo)) _ (λi _=>by
   show (P.lookup (i:Int).toNat).isSome=_
   rw[Av,wU])]
  unfold lW;rw[B2,B2];rfl
def vV(vs:List Nat):Nat:=(l4 (vs.map λ(i:Nat)=>(i:Int))).length
def HZ{vs:List Nat}(hl:vs.length<=1000){d:D}(hd:d = .lst (vs.map x5)\/d = .tup (vs.map x5)):Q0 [d]=some (x5 (vV vs)):=by
 show lM (HI [sC d])=_
 have hs:b9 (y3 0) [sC d]=some (vs.map x5):=by rcases hd with rfl|rfl<;>rfl
 have fin:HI [sC d]=some (.rt (x5 (vV vs))):=by
  refine lU ?_;unfold DZ;rw[hs];right;rw[BY];right;rw[y6 (by rw[A3];omega)]
  rfl
 rw[fin];rfl
def Ra{vs:List Nat}{u:Nat}(h:∀v,v∈vs↔v<u):vV vs=u:=by
 unfold vV
 have h1:=W1 (l4 (vs.map λ(i:Nat)=>(i:Int))) ((Aa u).map λ(i:Nat)=>(i:Int)) (wX _) λx hx=>by obtain⟨v,hv,rfl⟩:=Aq.mp (t8.mp hx);exact Cd (Am.mpr ((h v).mp hv))
 have h2:=W1 ((Aa u).map λ(i:Nat)=>(i:Int)) (l4 (vs.map λ(i:Nat)=>(i:Int))) (Bu.mpr (D2.imp λ{a b} q z=>q ⋯)) λx hx=>by obtain⟨v,hv,rfl⟩:=Aq.mp hx;exact t8.mpr (Cd ((h v).mpr (Am.mp hv)))
 rw[A3,At]at h1 h2;omega
theorem QY(gt:Nat->Nat->Bool):∀(q j b:Nat),b<j->W7 gt q j b<j+q
 | 0,j,b,h=>h
 |q+1,j,b,h=>by
  unfold W7
  have:=QY gt q (j+1) (if gt j b=true then j else b) (by split<;>omega)
  omega
def yG(kf:Nat->List Int):D->D
 | .int x=>.tup ((kf x.toNat).map D.int)
 |_=>.non
def Wb{R:Nat->List Nat}{m:Nat}{G:List Nat}{P:List (Nat×Nat)}{gD:D}(hG:∀t∈G,t<m)(hr:∀t,t<m->(R t).length<=1000)(hGl:G.length<=50)(bJ:∃t∈G,t∉P.map Bo)(hgD:gD = .lst (G.map x5)\/gD = .tup (G.map x5)):
  ∃t,HL [jL R m,gD,jI P]=some (x5 t)/\t∈G/\t∉P.map Bo:=by
 let L:=G.filter λt=>!decide (t∈P.map Bo)
 have hL:∀t∈L,t∈G/\t∉P.map Bo:=λt ht=>by
  have:=B7.mp ht
  exact⟨this.1,by simpa using this.2⟩
 have hLl:L.length<=50:=C7 (Ea _ _) hGl
 have am:L≠[]:=λe=>by
  obtain⟨t,h1,h2⟩:=bJ
  have:t∈L:=B7.mpr ⟨h1,by simpa using h2⟩
  rw[e]at this;simp at this
 let kf:Nat->List Int:=λt=>[(vV (lW R P t):Int),((R t).length:Int)]
 have e1:Q5 [none,some 2] (b9 (y3 1)) (u4 0) (nN (u0 (kN true (y3 0) (b9 (y3 1)))) (u0 (sR true (y3 0) (y3 1)))) (y3 0) [sC (jL R m),sC gD,sC (jI P),none]=some (L.map x5):=by
  refine(nM (ds:=G.map x5) (by rcases hgD with rfl|rfl<;>rfl) (by rw[A3];unfold f8;omega)).trans ?_
  refine(W6 (λY=>∃c,Y=[c,sC (jI P)]) (λd=>match d with|.int x=>!(P.lookup x.toNat).isSome|_=>false) (λd=>d) _ _ ⟨none,rfl⟩ ?_).trans ?_
  .rintro d hd Y ⟨c,rfl⟩;obtain⟨j,hj,rfl⟩:=Aq.mp hd;have lk:lD (jH P) (jU P) (Cf (j:Int))=(P.lookup j).map x5:=wG j P;refine⟨_,rfl,⟨_,rfl⟩,(TF rfl).trans (W5 ?_),λ_=>rfl⟩;show some (D.bl (!(lD (jH P) (jU P) (Cf (j:Int))).isSome))=some (D.bl (!(P.lookup (j:Int).toNat).isSome));rw[lk,Av,G4]
  .rw[Kw,yU (q:=λt=>!decide (t∈P.map Bo)) _ (λi _=>by
    show (!(P.lookup (i:Int).toNat).isSome)=_
    rw[Av,wU])]
 have ek:pB (jP (z9 (x8 Q0 (z9 (x8 J8 (lK 1 2 0)) Q7)) (z9 (kE (b9 (i3 (b9 (y3 1)) (y3 0)))) Q7))) [none,sC (jL R m),sC (jI P)] (L.map x5)=some ((L.map x5).map (yG kf)):=by
  refine CC _ λd hd=>?_;obtain⟨t,ht,rfl⟩:=Aq.mp hd;have dW:=hG t (hL t ht).1;have ft:=GO (P:=P) dW (hr t dW)
  have ak:(lW R P t).length<=1000:=by unfold lW;rw[A3];exact C7 (Ea _ _) (hr t dW)
  show jP _ [sC (x5 t),sC (jL R m),sC (jI P)]=some (D.tup ((kf (t:Int).toNat).map D.int));rw[Av];refine nV (ds:=[x5 (vV (lW R P t)),x5 (R t).length]) (u7 ((v8 (ds:=[.lst ((lW R P t).map x5)]) (u7 ((v8 (ds:=[jL R m,jI P,x5 t]) rfl).trans ft) rfl)).trans (HZ ak (.inl rfl))) (u7 ((p7 (ds:=(R t).map x5) (nU ((lN (ds:=(Aa m).map λi=>D.lst ((R i).map x5)) (j:=(t:Int)) rfl rfl).trans (ML dW)))).trans (by rw[A3];rfl)) rfl)) (show 2<=f8 by decide)
 have hm:∃i,∃h:i<L.length,FS ((L.map x5).map (yG kf)) (L.map x5)=some (x5 L[i]):=by
  cases hLe:L with
  |nil=>exact u3 hLe am
  |cons t L'=>
   have ei:lJ (((t::L').map x5).map (yG kf))=none:=rfl
   have et:mP (((t::L').map x5).map (yG kf))=some ((t::L').map kf):=by
    have:=DJ (nss:=(t::L').map kf) (λns h=>by
     obtain⟨u,_,rfl⟩:=Aq.mp h
     simp[kf])
    rw[B2]at this ⊢;exact this
   refine⟨W7 (vX ((t::L').map kf)) (((t::L').map x5).length-1) 1 0,?_,?_⟩
   .have:=QY (vX ((t::L').map kf)) (((t::L').map x5).length-1) 1 0 ∅
    rw[A3,Au]at this;rw[A3,Au];omega
   .show (match lJ (((t::L').map x5).map (yG kf)) with
     |some ns=>rA (rT ns) ((t::L').map x5)
     |none=>(match mP (((t::L').map x5).map (yG kf)) with|some nss=>rA (vX nss) ((t::L').map x5)|none=>none))=_
    rw[ei];right;rw[et];right;unfold rA;rw[Ao,A4];rfl
 obtain⟨i,hi,em⟩:=hm;refine⟨L[i],?_,hL _ (Bv hi)⟩;refine nP (x:=OI [sC (jL R m),sC gD,sC (jI P),none]) ?_;refine v9 (Q8 (oE e1)) ?_;refine lU ?_;unfold EA;show (match pB _ [none,sC (jL R m),sC (jI P)] (L.map x5) with|some ks=>FS ks (L.map x5)|none=>none)=_;rw[ek];exact em
def ŋ(P:List (Nat×Nat)):jU P=(P.map Mk).map x5:=by unfold jU;rw[B2];rfl
def þ{P:List (Nat×Nat)}{K u:Nat}(hu:∀v,(∃x∈P,x.2=v)↔v<u)(hl:P.length<=1000)(hK:K<=1000):zP [jI P,x5 K]=some (.lst ((Aa (Mw K (u+1))).map x5)):=by
 show lM (HW [sC (jI P),sC (x5 K)])=_
 have hc:vV (P.map Mk)=u:=Ra λv=>by rw[<-hu,Aq]
 have ul:u<=1000:=by
  by_cases c:u<=1000
  .exact c
  .exfalso
   have h2:=W1 (Aa u) (P.map Mk) D2 λv hv=>by obtain⟨x,hx,e⟩:=(hu v).mpr (Am.mp hv);exact Aq.mpr ⟨x,hx,e⟩
   rw[At,A3]at h2;omega
 have fin:HW [sC (jI P),sC (x5 K)]=some (.rt (.lst ((Aa (Mw K (u+1))).map x5))):=by
  refine lU (oE ?_)
  have e1:x8 Q0 (z9 (lG (xQ (y3 0))) Q7) [sC (jI P),sC (x5 K)]=some (x5 u):=by refine(v8 (ds:=[.lst (jU P)]) rfl).trans ?_;rw[ŋ,HZ (by rw[A3];exact hl) (.inl rfl),hc]
  have e2:x8 rP (z9 (y3 1) (z9 (d2 jE (x8 Q0 (z9 (lG (xQ (y3 0))) Q7)) (dI 1)) Q7)) [sC (jI P),sC (x5 K)]=some (.int ((Mw K (u+1):Nat):Int)):=by refine(v8 (ds:=[D.int (K:Int),D.int ((u:Int)+1)]) (u7 rfl (u7 ((kP (x:=.int (u:Int)) (y:=.int 1) e1 rfl).trans rfl) rfl))).trans ((KZ _ _).trans ?_);congr 2;omega
  refine(DC e2 ⋯ ⋯).trans ?_;rw[Av];unfold kB;rw[B2];refine lE some (B6 λi _=>?_);show D.int (0+(i:Int))=D.int (i:Int);rw[Mr]
 rw[fin];rfl
def w0D{P:List (Nat×Nat)}{t v:Nat}(hn:(P.map Bo).Nodup)(ht:t∉P.map Bo)(hl:P.length<=1000):zL [jI P,x5 t,x5 v]=some (jI (P++[(t,v)])):=by
 refine nP (x:=QO [sC (jI P),sC (x5 t),sC (x5 v),none]) ?_;refine v9 (Y':=[sC (jI P),sC (x5 t),sC (x5 v),some (.od (jH P) (jU P))]) rfl ?_;refine v9 (Y':=[sC (jI P),sC (x5 t),sC (x5 v),some (.od (jH (P++[(t,v)])) (jU (P++[(t,v)])))]) ?_ rfl;show (if (jH P).Nodup/\(jH P).length<f8 then some (Out.nx [sC (jI P),sC (x5 t),sC (x5 v),some (.od (lI (jH P) (jU P) (Cf (t:Int)) (x5 v)).1 (lI (jH P) (jU P) (Cf (t:Int)) (x5 v)).2)]) else none)=_
 rw[y6 ⟨CV hn,by unfold jH;rw[A3];unfold f8;omega⟩,FB ht]
theorem Rr(a:Nat):∀E:List Nat,oA (x5 a) (E.map x5)=decide (a∈E)
 | []=>by simp[oA]
 |b::E=>by
  have ih:=Rr a E;unfold oA at ih ⊢;rw[Ai,Fc,ih];show (((b:Int)==(a:Int))||decide (a∈E))=_;by_cases h:b=a
  .subst h;simp
  .have h':¬a=b:=λz=>h z.symm
   have h2:¬(b:Int)=(a:Int):=by omega
   simp[h2,h']
theorem P7:∀S:List Nat,lT (S.map x5)=0
 | []=>by simp[lT]
 |a::S=>by rw[Ai,lT,P7 S];simp[x5,depth]
def KS{fa:ED}{fl:EL}{E:List Nat}(ng:Bool)(h1:fa Y=some (x5 a))(h2:fl Y=some (E.map x5)):kN ng fa fl Y=some (.bl (if ng=true then !decide (a∈E) else decide (a∈E))):=by
 refine(FG h1 h2 (by rw[P7];decide) (by simp[x5,depth,jY])).trans ?_
 rw[Rr]
def v0M(a b:Nat):lY (x5 a) (x5 b)=some (.bl (decide (a=b))):=by
 unfold lY;rw[y6 (by simp[x5,depth,jY])];show some (D.bl ((a:Int)==(b:Int)))=_;congr 2;by_cases h:a=b
 .subst h;simp
 .have:¬(a:Int)=(b:Int):=by omega
  simp[h,this]
def uR{h:D->J5->Option J5}{g:EO}{ds:List D}{Y Y1 Y2:J5}(h1:h d Y=some Y1)(h2:g Y1=some (.nx Y2)):kR h g (d::ds) Y=kR h g ds Y2:=by
 conv=>lhs;unfold kR
 rw[h1];right;rw[h2]
def Ϡ{h:D->J5->Option J5}{g:EO}{ds:List D}{Y Y1:J5}(h1:h d Y=some Y1)(h2:g Y1=some (.rt v)):kR h g (d::ds) Y=some (.rt v):=by unfold kR;rw[h1];right;rw[h2]
structure jN(cl:Nat->Nat->Bool)(m:Nat)(R:Nat->List Nat):Prop where
 sy:∀i j,cl i j=cl j i
 ir:∀i,cl i i=false
 mem:∀t,t<m->∀j,j∈R t↔j<m/\cl t j=true
 len:∀t,t<m->(R t).length<=1000
 m12:m<=12
structure oC(m:Nat)(G:List Nat):Prop where
 nd:G.Nodup
 lt:∀t∈G,t<m
def oC.len(h:oC m G):G.length<=m:=by
 have:=W1 G (Aa m) h.nd λt ht=>Am.mpr (h.lt t ht)
 rw[At]at this;exact this
section
variable{cl:Nat->Nat->Bool}{m K u:Nat}{R:Nat->List Nat}{G:List Nat}{P:List (Nat×Nat)}
def kL.len(h:kL cl G K u P):P.length<=G.length:=by
 have:=W1 (P.map Bo) G h.nd λt ht=>by obtain⟨x,hx,rfl⟩:=Aq.mp ht;exact h.sub x hx
 rw[A3]at this;exact this
def r9(Fr:LD):EO:=
 (jV (u0 (kN true (y3 6) (b9 (y3 5))))
 (J6 (i4 7 (x8 Fr (z9 (y3 0) (z9 (y3 1) (z9 (x8 zL (lK 2 4 6)) (kM 3))))))
 (jV (u0 (d2 yE (y3 7) (dC .non)))
 (i9 (y3 7))
 jZ))
 jZ)
def o7(R:Nat->List Nat)(m:Nat)(G:List Nat)(P:List (Nat×Nat))(K t:Nat)(c6 c7:Option Cell):J5:=[sC (jL R m),sC (.lst (G.map x5)),sC (jI P),sC (x5 K),sC (x5 t),sC (.lst ((lW R P t).map x5)),c6,c7]
def FP(cl:Nat->Nat->Bool)(G:List Nat)(K:Nat)(P:List (Nat×Nat))(res:D):Prop:=(res = .non/\∀c,mU cl G c K->¬yB c P)\/∃P' u',res=jI P'/\kL cl G K u' P'/\P'.length=G.length
theorem SH(hg:jN cl m R)(hG:oC m G)(h:kL cl G K u P){t:Nat}(ht:t∈G)(hn:t∉P.map Bo){Fr:LD}(hF:∀(P':List (Nat×Nat)) (u':Nat),kL cl G K u' P'->P'.length=P.length+1->∃res,Fr [jL R m,.lst (G.map x5),jI P',x5 K]=some res/\FP cl G K P' res):
  ∀(vs:List Nat) (c6 c7:Option Cell),(∀v∈vs,v<=u/\v<K) ->
   (∃P' u',kR (u4 6) (r9 Fr) (vs.map x5) (o7 R m G P K t c6 c7)=some (.rt (jI P'))/\kL cl G K u' P'/\P'.length=G.length) \/
   (∃cW dw,kR (u4 6) (r9 Fr) (vs.map x5) (o7 R m G P K t c6 c7)=some (.nx (o7 R m G P K t cW dw))/\∀v∈vs,v∉lW R P t->∀c,mU cl G c K->¬yB c (P++[(t,v)]))
 | [],c6,c7,_=>.inr ⟨c6,c7,rfl,λv hv=>by simp at hv⟩
 |v::vs,c6,c7,hv=>by
  have dW:=hG.lt t ht
  have pl:P.length<=1000:=by have:=h.len;have:=hG.len;have:=hg.m12;omega
  have gV:=hv v A6;have rest:=SH hg hG h ht hn hF vs;have e1:u0 (kN true (y3 6) (b9 (y3 5))) (o7 R m G P K t (sC (x5 v)) c7)=some (!decide (v∈lW R P t)):=W5 (KS true rfl rfl);by_cases c:v∈lW R P t
  .rw[Y1 c]at e1;have st:kR (u4 6) (r9 Fr) ((v::vs).map x5) (o7 R m G P K t c6 c7)=kR (u4 6) (r9 Fr) (vs.map x5) (o7 R m G P K t (sC (x5 v)) c7):=uR rfl ((mI e1).trans rfl);rw[st];rcases rest (sC (x5 v)) c7 (λw hw=>hv w (A7 _ hw)) with z|⟨a,b,z1,z2⟩
   .exact .inl z
   .refine .inr ⟨a,b,z1,λw hw gR=>?_⟩;rcases Ac.mp hw with y|y
    .subst y;exact u3 c gR
    .exact z2 w y gR
  .rw[W4 c]at e1;have bt:∀x∈P,cl t x.1=true->x.2≠v:=λx hx hc e=>c ((CY h.nd).mpr ⟨x,hx,(hg.mem t dW x.1).mpr ⟨hG.lt _ (h.sub x hx),hc⟩,e⟩);have hp:=h.add hg.sy hg.ir ht hn gV.1 gV.2 bt;obtain⟨res,er,hT⟩:=hF _ _ hp (by rw[Ap,Bg]);have ew:=w0D (v:=v) h.nd hn pl
   have es:i4 7 (x8 Fr (z9 (y3 0) (z9 (y3 1) (z9 (x8 zL (lK 2 4 6)) (kM 3))))) (o7 R m G P K t (sC (x5 v)) c7)=some (.nx (o7 R m G P K t (sC (x5 v)) (sC res))):=(Q8 (d:=res) ((v8 (ds:=[jL R m,.lst (G.map x5),jI (P++[(t,v)]),x5 K]) (u7 rfl (u7 rfl (u7 ((v8 (ds:=[jI P,x5 t,x5 v]) rfl).trans ew) rfl)))).trans er)).trans rfl
   rcases hT with⟨rfl,cp⟩|⟨P',u',rfl,hP',bR⟩
   .have st:kR (u4 6) (r9 Fr) ((v::vs).map x5) (o7 R m G P K t c6 c7)=kR (u4 6) (r9 Fr) (vs.map x5) (o7 R m G P K t (sC (x5 v)) (sC .non)):=uR rfl ((mI e1).trans (v9 es ((mI (a:=false) (W5 rfl)).trans rfl)))
    rw[st];rcases rest (sC (x5 v)) (sC .non) (λw hw=>hv w (A7 _ hw)) with z|⟨a,b,z1,z2⟩
    .exact .inl z
    .refine .inr ⟨a,b,z1,λw hw gR=>?_⟩;rcases Ac.mp hw with y|y
     .subst y;exact cp
     .exact z2 w y gR
   .exact .inl ⟨P',u',Ϡ rfl ((mI e1).trans (v9 es ((mI (a:=true) (W5 rfl)).trans rfl))),hP',bR⟩
theorem NT(hg:jN cl m R)(hG:oC m G)(hK:K<=1000):∀(q:Nat) (P:List (Nat×Nat)) (u:Nat),kL cl G K u P->G.length<q+P.length ->
  ∃res,Z6 q [jL R m,.lst (G.map x5),jI P,x5 K]=some res/\FP cl G K P res
 | 0,P,u,h,hq=>by have:=h.len;omega
 |q+1,P,u,h,hq=>by
  have hl:=h.len;have gl:=hG.len;have m12:=hg.m12
  have e0:u0 (d2 lY (vP (y3 2)) (kE (b9 (y3 1)))) [sC (jL R m),sC (.lst (G.map x5)),sC (jI P),sC (x5 K),none,none,none,none]=some (decide (P.length=G.length)):=by
   refine W5 ((kP (x:=x5 P.length) (y:=x5 G.length) ?_ ((p7 (ds:=G.map x5) rfl).trans (by rw[A3];rfl))).trans (v0M _ _))
   show some (D.int ((jH P).length:Int))=_;unfold jH;rw[A3];rfl
  by_cases c:P.length=G.length
  .rw[Y1 c]at e0;refine⟨jI P,?_,.inr ⟨P,u,rfl,h,c⟩⟩;show lM (wT (Z6 q) [sC (jL R m),sC (.lst (G.map x5)),sC (jI P),sC (x5 K),none,none,none,none])=_;rw[show wT (Z6 q) [sC (jL R m),sC (.lst (G.map x5)),sC (jI P),sC (x5 K),none,none,none,none]=some (.rt (jI P)) from AF ((mI e0).trans rfl)];rfl
  .rw[W4 c]at e0
   have bJ:∃t∈G,t∉P.map Bo:=by
    by_cases hh:∃t∈G,t∉P.map Bo
    .exact hh
    .exfalso
     have:=W1 G (P.map Bo) hG.nd λt ht=>by
      by_cases z:t∈P.map Bo
      .exact z
      .exact u3 ⟨t,ht,z⟩ hh
     rw[A3]at this;omega
   obtain⟨t,eh,ht,hn⟩:=Wb (R:=R) (P:=P) hG.lt hg.len ⋯ bJ (.inl rfl);have dW:=hG.lt t ht;have et:=GO (P:=P) dW (hg.len t dW);have ey:=þ (K:=K) h.use ⋯ hK
   have pre:∀o,J6 (lB (b9 (x8 zP (jQ 2 3))) (u4 6) (r9 (Z6 q))) (i9 (dC .non)) (o7 R m G P K t none none)=o->wT (Z6 q) [sC (jL R m),sC (.lst (G.map x5)),sC (jI P),sC (x5 K),none,none,none,none]=o:=λo ho=>by refine v9 ((mI e0).trans rfl) ?_;refine v9 (Q8 (d:=x5 t) ((v8 (ds:=[jL R m,.lst (G.map x5),jI P]) rfl).trans eh)) ?_;exact v9 (Q8 (d:=.lst ((lW R P t).map x5)) ((v8 (ds:=[jL R m,jI P,x5 t]) rfl).trans et)) ho
   have iT:lB (b9 (x8 zP (jQ 2 3))) (u4 6) (r9 (Z6 q)) (o7 R m G P K t none none)=kR (u4 6) (r9 (Z6 q)) ((Aa (Mw K (u+1))).map x5) (o7 R m G P K t none none):=oZ (nU ((v8 (ds:=[jI P,x5 K]) rfl).trans ey))
   rcases SH hg hG h ht hn (Fr:=Z6 q) (λP' u' hP' bR=>NT hg hG hK q P' u' hP' ⋯) (Aa (Mw K (u+1))) none none (λv hv=>by have:=Am.mp hv;omega) with⟨P',u',z1,z2,z3⟩|⟨c6,c7,z1,z2⟩
   .refine⟨jI P',?_,.inr ⟨P',u',rfl,z2,z3⟩⟩;show lM (wT (Z6 q) [sC (jL R m),sC (.lst (G.map x5)),sC (jI P),sC (x5 K),none,none,none,none])=_;rw[pre _ (AF (iT.trans z1))];rfl
   .refine⟨.non,?_,.inl ⟨rfl,λcc hc he=>?_⟩⟩
    .show lM (wT (Z6 q) [sC (jL R m),sC (.lst (G.map x5)),sC (jI P),sC (x5 K),none,none,none,none])=_;rw[pre (some (.rt .non)) (v9 (iT.trans z1) (lU rfl))];rfl
    .obtain⟨v,v1,v2,v3,c',c1,c2⟩:=h.try hc he ht hn;refine z2 v (Am.mpr ⋯) (λhm=>?_) c' c1 c2;obtain⟨x,hx,hxr,e⟩:=(CY h.nd).mp hm;exact v3 x hx ((hg.mem t dW x.1).mp hxr).2 e
end
section
variable{cl:Nat->Nat->Bool}{m:Nat}{R:Nat->List Nat}
def xA(cl:Nat->Nat->Bool)(m:Nat)(G:List Nat):Prop:=∀x∈G,∀j,j<m->cl x j=true->j∈G
def UY(cl:Nat->Nat->Bool)(m t:Nat)(G:List Nat):Prop:=∀A:Nat->Prop,(∀x j,x<m->j<m->A x->cl x j=true->A j)->¬A t->∀x∈G,¬A x
structure GI(cl:Nat->Nat->Bool)(m t:Nat)(R:Nat->List Nat)(G:List Nat)(k:Nat):Prop where
 gr:oC m G
 kl:k<=G.length
 has:t∈G
 clo:∀i,i<k->∀x,G[i]?=some x->∀j∈R x,j∈G
 aw:UY cl m t G
def Ud:EB:=u0 (d2 oU (y3 3) (kE (kK 2)))
def Uc:EO:=
 (J6 (o6 2 (Q5 [none,some 2] (b9 (i3 (b9 (y3 0)) (i3 (kK 2) (y3 3)))) (u4 0) (u0 (kN true (y3 0) (kK 1))) (y3 0)))
 (vN 3 (dI 1)))
def uG(R:Nat->List Nat)(m t:Nat)(G:List Nat)(k:Nat):J5:=[sC (jL R m),sC (x5 t),some (.ow (G.map x5)),sC (x5 k)]
def Yf(t:Nat)(G:List Nat)(k:Nat):Ud (uG R m t G k)=some (decide (k<G.length)):=by
 refine W5 ((kP (x:=x5 k) (y:=x5 G.length) rfl ((p7 (ds:=G.map x5) rfl).trans (by rw[A3];rfl))).trans ?_)
 show some (D.bl (decide ((k:Int)<(G.length:Int))))=_;congr 2;exact decide_eq_decide.mpr ⋯
def Ye(hg:jN cl m R)(aB:∀t,t<m->(R t).Nodup)(h:GI cl m t R G k)(hk:k<G.length):∃G',Uc (uG R m t G k)=some (.nx (uG R m t G' (k+1)))/\GI cl m t R G' (k+1):=by
 have hx:G[k]<m:=h.gr.lt _ (Bv hk);have m12:=hg.m12;have gl:=h.gr.len
 let new:=(R G[k]).filter λj=>!decide (j∈G)
 have e1:Q5 [none,some 2] (b9 (i3 (b9 (y3 0)) (i3 (kK 2) (y3 3)))) (u4 0) (u0 (kN true (y3 0) (kK 1))) (y3 0) (uG R m t G k)=some (new.map x5):=by
  have ei:i3 (kK 2) (y3 3) (uG R m t G k)=some (x5 G[k]):=by refine(lN (ds:=G.map x5) (j:=(k:Int)) rfl rfl).trans ?_;unfold lL;rw[A3,wD hk];show (G.map x5)[k]?=_;rw[Ao,A4 hk];rfl
  refine(nM (ds:=(R G[k]).map x5) (nU ((lN (ds:=(Aa m).map λi=>D.lst ((R i).map x5)) (j:=(G[k]:Int)) rfl ei).trans (ML hx))) (by rw[A3];have:=hg.len _ hx;unfold f8;omega)).trans ?_
  refine(W6 (λY=>∃c,Y=[c,some (.ow (G.map x5))]) (λd=>match d with|.int x=>!decide (x.toNat∈G)|_=>false) (λd=>d) _ _ ⟨none,rfl⟩ ?_).trans ?_
  .rintro d hd Y ⟨c,rfl⟩;obtain⟨j,hj,rfl⟩:=Aq.mp hd;refine⟨_,rfl,⟨_,rfl⟩,W5 ((KS true rfl rfl).trans ?_),λ_=>rfl⟩;show some (D.bl (!decide (j∈G)))=some (D.bl (!decide ((j:Int).toNat∈G)));rw[Av]
  .rw[Kw,yU (q:=λj=>!decide (j∈G)) _ (λi _=>by
    show (!decide ((i:Int).toNat∈G))=_
    rw[Av])]
 have bF:∀j∈new,(j<m/\cl G[k] j=true)/\j∉G:=λj hj=>by
  have:=B7.mp hj
  exact⟨(hg.mem _ hx j).mp this.1,by simpa using this.2⟩
 have gr':oC m (G++new):=by
  refine⟨?_,λx aH=>?_⟩
  .rw[Cq];refine⟨h.gr.nd,(aB _ hx).sublist Ie,λa ha b hb e=>(bF b hb).2 (e▸ha)⟩
  .rcases Az.mp aH with z|z
   .exact h.gr.lt x z
   .exact(bF x z).1.1
 refine⟨G++new,?_,gr',by rw[Ap];omega,Bn _ h.has,λi hi x aH j hj=>?_,λA hA hn x aH=>?_⟩
 .have gl':=gr'.len;rw[Ap]at gl';refine v9 (Y':=uG R m t (G++new) k) ((T7 (ds:=G.map x5) rfl e1 (by rw[A3,A3];unfold f8;omega)).trans ?_) ?_
  .rw[<-B9];rfl
  .show some (Out.nx [sC (jL R m),sC (x5 t),some (.ow ((G++new).map x5)),sC (.int ((k:Int)+1))])=_;rfl
 .by_cases c:i<k
  .rw[Do ⋯]at aH;exact Bn _ (h.clo i c x aH j hj)
  .have:i=k:=by omega
   subst this;rw[Do hk,A4 hk]at aH;cases aH;by_cases d:j∈G
   .exact Bn _ d
   .exact Ab _ (B7.mpr ⟨hj,by simpa using d⟩)
 .rcases Az.mp aH with z|z
  .exact h.aw A hA hn x z
  .intro hax;have hq:=bF x z;refine h.aw A hA hn _ (Bv hk) (hA x _ hq.1.1 hx hax ?_);rw[hg.sy];exact hq.1.2
theorem Su(hg:jN cl m R)(aB:∀t,t<m->(R t).Nodup):∀(f:Nat) (G:List Nat) (k:Nat),GI cl m t R G k->m<f+k->∃G',oG f Ud Uc (uG R m t G k)=some (.nx (uG R m t G' G'.length))/\GI cl m t R G' G'.length
 | 0,G,k,h,hf=>by
  have:=h.kl
  have:=h.gr.len
  omega
 |f+1,G,k,h,hf=>by
  unfold oG;rw[Yf];by_cases c:k<G.length
  .rw[Y1 c];obtain⟨G',e,h'⟩:=Ye hg aB h c;right;rw[e];exact Su hg aB f G' (k+1) h' ⋯
  .rw[W4 c]
   have:k=G.length:=by have:=h.kl;omega
   subst this;exact⟨G,rfl,h⟩
def Zh(hg:jN cl m R)(aB:∀t,t<m->(R t).Nodup){t:Nat}(ht:t<m):∃G,DU [jL R m,x5 t]=some (.lst (G.map x5))/\oC m G/\t∈G/\xA cl m G/\UY cl m t G:=by
 have h0:GI cl m t R [t] 0:=⟨⟨Df _ _,λx hx=>by rw[Ag.mp hx];exact ht⟩,Bh _,Ag.mpr rfl,λi hi=>u3 hi (Fx _),λA _ hn x hx=>by rw[Ag.mp hx];exact hn⟩
 obtain⟨G,e,h⟩:=Su hg aB 200 [t] 0 h0 (by have:=hg.m12;omega)
 refine⟨G,?_,h.gr,h.has,λx hx j hj hc=>?_,h.aw⟩
 .show lM (HV [sC (jL R m),sC (x5 t),none,none])=_
  have fin:HV [sC (jL R m),sC (x5 t),none,none]=some (.rt (.lst (G.map x5))):=by refine v9 (wC (ds:=[x5 t]) (zT rfl (show 1<=f8 by decide))) ?_;refine v9 (Q8 (d:=x5 0) rfl) ?_;exact v9 e rfl
  rw[fin];rfl
 .obtain⟨i,hi,e'⟩:=E8 hx;exact h.clo i hi x (by rw[A4 hi,e']) j ((hg.mem x (h.gr.lt x hx) j).mpr ⟨hj,hc⟩)
structure NP(cl:Nat->Nat->Bool)(m:Nat)(Gs:List (List Nat))(gd:List Nat):Prop where
 gr:∀G∈Gs,oC m G/\xA cl m G
 dis:Gs.Pairwise λG G'=>∀x∈G,x∉G'
 nd:gd.Nodup
 mem:∀x,x∈gd↔∃G∈Gs,x∈G
def n9(gd:List Nat):List d4:=gd.map λ(x:Nat)=>(Cf (x:Int):d4)
def rS(gd:List Nat):List D:=gd.map λ_=>D.bl true
def pA(R:Nat->List Nat)(m:Nat)(Gs:List (List Nat))(gd:List Nat)(c3 c4:Option Cell):J5:=[sC (jL R m),some (.ow (Gs.map λG=>.lst (G.map x5))),some (.od (n9 gd) (rS gd)),c3,c4]
theorem RB(t:Nat):∀gd:List Nat,(lD (n9 gd) (rS gd) (Cf (t:Int))).isSome=decide (t∈gd)
 | []=>rfl
 |a::gd=>by
  show (if (Cf (a:Int):d4)=Cf (t:Int) then some (D.bl true) else lD (n9 gd) (rS gd) (Cf (t:Int))).isSome=_;by_cases h:a=t
  .subst h;rw[y6 rfl];simp
  .rw[y8 (λz=>h (by have:=Gk z;omega)),RB t gd]
   have h':¬t=a:=λz=>h z.symm;simp[h']
def Ŕ{gd:List Nat}{t:Nat}(h:t∉gd):lI (n9 gd) (rS gd) (Cf (t:Int)) (.bl true)=(n9 (gd++[t]),rS (gd++[t])):=by
 rw[CF _ _ _ _ (by unfold n9 rS;rw[A3,A3]) (λz=>by
  obtain⟨x,hx,e⟩:=Aq.mp z
  have:x=t:=by have:=Gk e;omega
  exact h (this▸hx))]
 unfold n9 rS;rw[B9,B9];rfl
def YV{gd:List Nat}(h:gd.Nodup):(n9 gd).Nodup:=by unfold n9;exact Bu.mpr (h.imp λ{a b} q z=>q (by have:=Gk z;omega))
theorem QP:∀(G gd:List Nat) (c4:Option Cell),(gd++G).Nodup->(gd++G).length<=1000->∃cj,kR (u4 4) (nO 2 (y3 4) (dC (.bl true))) (G.map x5) (pA R m Gs gd c3 c4)=some (.nx (pA R m Gs (gd++G) c3 cj))
 | [],gd,c4,_,_=>⟨c4,by rw[Cr];rfl⟩
 |t::G,gd,c4,hn,hl=>by
  have bB:((gd++[t])++G).Nodup:=by rw[Cp];exact hn
  have bR:((gd++[t])++G).length<=1000:=by rw[Cp];exact hl
  obtain⟨cj,e⟩:=QP (Gs:=Gs) (c3:=c3) G (gd++[t]) (sC (x5 t)) bB bR;have ht:t∉gd:=λz=>(Cq.mp hn).2.2 t z t A6 rfl;have hgd:=(Cq.mp hn).1
  have st:nO 2 (y3 4) (dC (.bl true)) (pA R m Gs gd c3 (sC (x5 t)))=some (.nx (pA R m Gs (gd++[t]) c3 (sC (x5 t)))):=by
   show (if (n9 gd).Nodup/\(n9 gd).length<f8 then some (Out.nx [sC (jL R m),some (.ow (Gs.map λG=>.lst (G.map x5))),some (.od (lI (n9 gd) (rS gd) (Cf (t:Int)) (.bl true)).1 (lI (n9 gd) (rS gd) (Cf (t:Int)) (.bl true)).2),c3,sC (x5 t)]) else none)=_;rw[Ap]at hl;rw[y6 ⟨YV hgd,by unfold n9;rw[A3];unfold f8;omega⟩,Ŕ ht]
   rfl
  refine⟨cj,?_⟩;rw[Ai,uR rfl st,e,Cp];rfl
def Ue:EO:=
 (jV (u0 (xN true (y3 3) 2))
 (J6 (qK 1 (x8 DU (jQ 0 3)))
 (lB (b9 (i3 (kK 1) (rO (dI 1)))) (u4 4)
 (nO 2 (y3 4) (dC (.bl true)))))
 jZ)
def Yg(hg:jN cl m R)(aB:∀t,t<m->(R t).Nodup)(h:NP cl m Gs gd)(hGl:Gs.length<=100){t:Nat}(ht:t<m){c4:Option Cell}:
  ∃ic gz cj,Ue (pA R m Gs gd (sC (x5 t)) c4)=some (.nx (pA R m ic gz (sC (x5 t)) cj))/\NP cl m ic gz/\ic.length<=Gs.length+1/\(∀x∈gd,x∈gz)/\t∈gz:=by
 have e0:u0 (xN true (y3 3) 2) (pA R m Gs gd (sC (x5 t)) c4)=some (!decide (t∈gd)):=by refine W5 ?_;show some (D.bl (!(lD (n9 gd) (rS gd) (Cf (t:Int))).isSome))=_;rw[RB]
 by_cases c:t∈gd
 .rw[Y1 c]at e0;exact⟨Gs,gd,c4,(mI e0).trans rfl,h,E9 _,λx hx=>hx,c⟩
 .rw[W4 c]at e0;obtain⟨G,eG,g1,g2,g3,g4⟩:=Zh hg aB ht
  have bY:∀x∈G,x∉gd:=g4 (λx=>x∈gd) (λx j hx hj hA hc=>by
   obtain⟨G',be,aH⟩:=(h.mem x).mp hA
   exact(h.mem j).mpr ⟨G',be,(h.gr G' be).2 x aH j hj hc⟩) c
  have hn:(gd++G).Nodup:=by rw[Cq];exact⟨h.nd,g1.nd,λa ha b hb e=>bY b hb (e▸ha)⟩
  have m12:=hg.m12
  have ak:∀x∈gd++G,x<m:=λx hx=>by
   rcases Az.mp hx with z|z
   .obtain⟨G',be,aH⟩:=(h.mem x).mp z;exact(h.gr G' be).1.lt x aH
   .exact g1.lt x z
  have hl:(gd++G).length<=1000:=by
   have:=W1 _ (Aa m) hn λx hx=>Am.mpr (ak x hx)
   rw[At]at this;omega
  obtain⟨cj,el⟩:=QP (R:=R) (m:=m) (Gs:=Gs++[G]) (c3:=sC (x5 t)) G gd c4 hn hl;refine⟨Gs++[G],gd++G,cj,?_,⟨λG' be=>?_,?_,hn,λx=>?_⟩,by rw[Ap,Bg];exact Ad _,λx hx=>Bn _ hx,Ab _ g2⟩
  .refine(mI e0).trans ?_;rw[y6 ∅];refine v9 (Y':=pA R m (Gs++[G]) gd (sC (x5 t)) c4) ((KO (ds:=Gs.map λG=>D.lst (G.map x5)) (d:=.lst (G.map x5)) rfl ((v8 (ds:=[jL R m,x5 t]) rfl).trans eG) (by rw[A3];unfold f8;omega)).trans ?_) ?_
   .unfold pA;rw[B9];rfl
   .refine(oZ (ds:=G.map x5) (nU ((lN (ds:=(Gs++[G]).map λG=>D.lst (G.map x5)) (j:=-1) rfl rfl).trans ?_))).trans el;unfold lL qO;rw[A3,Ap,Bg,y8 ∅,y6 ⋯];show ((Gs++[G]).map λG=>D.lst (G.map x5))[(-1+((Gs.length+1:Nat):Int)).toNat]?=_;rw[show (-1+((Gs.length+1:Nat):Int)).toNat=Gs.length by omega,Ao,List.getElem?_concat_length]
    rfl
  .rcases Az.mp be with z|z
   .exact h.gr G' z
   .rw[Ag.mp z];exact⟨g1,g3⟩
  .rw[Dy];refine⟨h.dis,Df _ _,λG' be G2 hG2 x hx=>?_⟩;rw[Ag.mp hG2];exact λz=>bY x z ((h.mem x).mpr ⟨G',be,hx⟩)
  .rw[Az,h.mem];constructor
   .rintro (⟨G',be,hx⟩|hx)
    .exact⟨G',Bn _ be,hx⟩
    .exact⟨G,Ab _ (Ag.mpr rfl),hx⟩
   .rintro ⟨G',be,hx⟩;rcases Az.mp be with z|z
    .exact .inl ⟨G',z,hx⟩
    .rw[Ag.mp z]at hx;exact .inr hx
def Ĥ(hg:jN cl m R)(aB:∀t,t<m->(R t).Nodup):∃Gs:List (List Nat),GZ [jL R m]=some (.lst (Gs.map λG=>.lst (G.map x5)))/\(∀G∈Gs,oC m G/\xA cl m G)/\(Gs.Pairwise λG G'=>∀x∈G,x∉G')/\(∀t,t<m->∃G∈Gs,t∈G)/\Gs.length<=m:=by
 have m12:=hg.m12
 obtain⟨Y',l1,Gs,gd,c3,c4,rfl,h,hl,cu⟩:=yW (h:=u4 3) (g:=Ue) (λpre Y=>∃(Gs:List (List Nat)) (gd:List Nat) (c3 c4:Option Cell),Y=pA R m Gs gd c3 c4/\NP cl m Gs gd/\Gs.length<=pre.length/\∀t,t<pre.length->t∈gd)
  (ds:=Q6 0 m) (Y:=pA R m [] [] none none) ⟨[],[],none,none,rfl,⟨λG hG=>by simp at hG,El,Ep,λx=>by simp⟩,Ad _,λt ht=>u3 ht (Fx _)⟩ (λpre d post Y he hI=>by
   obtain⟨Gs,gd,c3,c4,rfl,h,hl,cu⟩:=hI;have ab:=lE Kb he;rw[vF,Ap,Au]at ab
   have hd:d=x5 pre.length:=by
    have h1:(Q6 0 m)[pre.length]?=some d:=by rw[<-he];simp
    rw[X7 ⋯]at h1;exact(Bi h1).symm
   subst hd;obtain⟨ic,gz,cj,e,h',l',s',t'⟩:=Yg hg aB h ⋯ (show pre.length<m by omega) (c4:=c4);refine⟨_,_,rfl,.inl e,ic,gz,_,cj,rfl,h',by rw[Ap,Bg];omega,λt ht=>?_⟩
   rw[Ap,Bg]at ht;by_cases c:t=pre.length
   .rw[c];exact t'
   .exact s' t (cu t ⋯))
 refine⟨Gs,?_,h.gr,h.dis,λt ht=>(h.mem t).mp (cu t (by rw[vF];exact ht)),by rw[vF]at hl;exact hl⟩
 refine nP (x:=QM [sC (jL R m),none,none,none,none]) ?_;refine v9 (wC (ds:=[]) (zT (ds:=[]) rfl ∅)) ?_;refine v9 (Y':=pA R m [] [] none none) rfl ?_;refine v9 ((oZ (ds:=Q6 0 m) ?_).trans l1) rfl;have e4:=AE (fa:=kE (b9 (y3 0))) (Y:=pA R m [] [] none none) (j:=(((Aa m).map λi=>D.lst ((R i).map x5)).length:Int)) rfl (by rw[A3,At];unfold nG;rw[Y1 ⋯,Y1 ⋯];rfl)
 rw[A3,At,Av]at e4;exact e4
def pG(cl:Nat->Nat->Bool)(m K:Nat):Prop:=∀c K',GJ cl m c K'->K<=K'
def Rp{G:List Nat}{i j:Nat}(hi:i∈G)(hj:j∈G)(e:G.idxOf i=G.idxOf j):i=j:=by
 have l1:G.idxOf i<G.length:=B1 hi;have l2:G.idxOf j<G.length:=B1 hj
 have g1:G[G.idxOf i]?=some i:=by rw[A4 l1,Gr]
 have g2:G[G.idxOf j]?=some j:=by rw[A4 l2,Gr]
 rw[e,g2]at g1;exact(Bi g1).symm
def ϗ(hg:jN cl m R){G:List Nat}{K:Nat}(h:G.length<=K):mU cl G (λi=>G.idxOf i) K:=by
 refine⟨λi hi=>?_,λi hi j hj hc e=>?_⟩
 .have:=B1 hi
  omega
 .have:=Rp hi hj e
  subst this;rw[hg.ir]at hc;cases hc
def pG.up(h:pG cl m K)(hG:oC m G)(cp:∀c,¬mU cl G c K):pG cl m (K+1):=λc K' hc=>by
 have h1:=h c K' hc;by_cases e:K'=K
 .exfalso;subst e;exact cp c ⟨λi hi=>hc.lt i (hG.lt i hi),λi hi j hj ar=>hc.ne i j (hG.lt i hi) (hG.lt j hj) ar⟩
 .omega
def MW:ED:=x8 (Z6 12) (z9 (y3 0) (z9 (y3 3) (z9 (BH (λ_=>some ([],[]))) (kM 1))))
def o8(R:Nat->List Nat)(m K:Nat)(P:List (Nat×Nat))(c3 c4:Option Cell):J5:=[sC (jL R m),sC (x5 K),some (.od (jH P) (jU P)),c3,c4]
def Rv(hg:jN cl m R)(hG:oC m G)(hm:m<=11){K:Nat}(hK:K<=1000){c4:Option Cell}:∃res,MW (o8 R m K P (sC (.lst (G.map x5))) c4)=some res/\FP cl G K [] res:=by
 obtain⟨res,e,h⟩:=NT hg hG hK 12 [] 0 kL.zero (by have:=hG.len;rw[Ed];omega)
 exact⟨res,(v8 (ds:=[jL R m,.lst (G.map x5),jI [],x5 K]) rfl).trans e,h⟩
def FO:EB:=u0 (d2 yL (y3 4) (dC .non))
def MH:EO:=J6 (vN 1 (dI 1)) (i4 4 MW)
theorem US(hg:jN cl m R)(hG:oC m G)(hm:m<=11):∀(f K:Nat) (res:D),FP cl G K [] res->K<=m->pG cl m K->m+1<f+K ->
  ∃K' P' u',oG f FO MH (o8 R m K P (sC (.lst (G.map x5))) (sC res))=some (.nx (o8 R m K' P (sC (.lst (G.map x5))) (sC (jI P'))))/\kL cl G K' u' P'/\P'.length=G.length/\pG cl m K'/\K<=K'/\K'<=m
 | 0,K,res,hT,hK,hL,hf=>by omega
 |f+1,K,res,hT,hK,hL,hf=>by
  unfold oG;rcases hT with⟨rfl,cp⟩|⟨P',u',rfl,hP,hl⟩
  .have e0:FO (o8 R m K P (sC (.lst (G.map x5))) (sC .non))=some true:=rfl;rw[e0];right
   have jy:∀c,¬mU cl G c K:=λc hc=>cp c hc λx hx=>by simp at hx
   have hKm:K<m:=by
    by_cases z:K<m
    .exact z
    .exact u3 (ϗ hg (by have:=hG.len;omega)) (jy _)
   obtain⟨iX,er,hT'⟩:=Rv hg hG hm (K:=K+1) ⋯ (P:=P) (c4:=sC .non)
   have eb:MH (o8 R m K P (sC (.lst (G.map x5))) (sC .non))=some (.nx (o8 R m (K+1) P (sC (.lst (G.map x5))) (sC iX))):=v9 (Y':=o8 R m (K+1) P (sC (.lst (G.map x5))) (sC .non)) rfl ((Q8 er).trans rfl)
   rw[eb];obtain⟨K',P',u',e,z1,z2,z3,z4,z5⟩:=US hg hG hm f (K+1) iX hT' ⋯ (hL.up hG jy) ⋯;exact⟨K',P',u',e,z1,z2,z3,⋯,z5⟩
  .have e0:FO (o8 R m K P (sC (.lst (G.map x5))) (sC (jI P')))=some false:=rfl;rw[e0];exact⟨K,P',u',rfl,hP,hl,hL,Ad _,hK⟩
theorem SU:∀(P' P:List (Nat×Nat)),((P++P').map Bo).Nodup->pO (jH P) (jU P) (jH P') (jU P')=(jH (P++P'),jU (P++P'))
 | [],P,_=>by rw[Cr];unfold jH jU;cases P<;>rfl
 | (t,v)::P',P,hn=>by
  have bB:(((P++[(t,v)])++P').map Bo).Nodup:=by rw[Cp];exact hn
  have ht:t∉P.map Bo:=λz=>by rw[B9,Cq]at hn;exact hn.2.2 t z t (by simp) rfl
  have ih:=SU P' (P++[(t,v)]) bB;show pO (lI (jH P) (jU P) (Cf (t:Int)) (x5 v)).1 (lI (jH P) (jU P) (Cf (t:Int)) (x5 v)).2 (jH P') (jU P')=_;rw[FB ht];right;rw[ih,Cp];rfl
structure PI(cl:Nat->Nat->Bool)(m:Nat)(done:List (List Nat))(K:Nat)(P:List (Nat×Nat)):Prop where
 nd:(P.map Bo).Nodup
 mem:∀x,x∈P.map Bo↔∃G∈done,x∈G
 ok:∀x∈P,∀y∈P,cl x.1 y.1=true->x.2≠y.2
 lt:∀x∈P,x.2<K
 least:pG cl m K
 Km:K<=m
def TH:EO:=
 (J6 (i4 4 MW)
 (J6 (oG 200 FO MH)
 (FR 2 (y3 4))))
def Ϭ(hg:jN cl m R)(hm:m<=11){done:List (List Nat)}(hd:∀G'∈done,oC m G'/\xA cl m G')(hG:oC m G/\xA cl m G)(bY:∀G'∈done,∀x∈G',x∉G)(h:PI cl m done K P){c4:Option Cell}:
  ∃K' P' cj,TH (o8 R m K P (sC (.lst (G.map x5))) c4)=some (.nx (o8 R m K' P' (sC (.lst (G.map x5))) cj))/\PI cl m (done++[G]) K' P':=by
 have m12:=hg.m12;obtain⟨res,e1,hT⟩:=Rv hg hG.1 hm (K:=K) (by have:=h.Km;omega) (P:=P) (c4:=c4)
 obtain⟨K',P',u',e2,hP,hl,hL,hKK,hKm⟩:=US hg hG.1 hm (P:=P) 200 K res hT h.Km h.least ⋯
 have hx:∀x∈P',x.1∉P.map Bo:=λx hx z=>by obtain⟨G',be,aH⟩:=(h.mem x.1).mp z;exact bY G' be x.1 aH (hP.sub x hx)
 have aB:((P++P').map Bo).Nodup:=by rw[B9,Cq];refine⟨h.nd,hP.nd,λa ha b hb e=>?_⟩;obtain⟨x,aH,rfl⟩:=Aq.mp hb;exact hx x aH (e▸ha)
 have ab:(P++P').length<=1000:=by
  have:=W1 ((P++P').map Bo) (Aa m) aB λx aH=>by
   rw[B9,Az]at aH;rcases aH with z|z
   .obtain⟨G',be,fL⟩:=(h.mem x).mp z;exact Am.mpr ((hd G' be).1.lt x fL)
   .obtain⟨y,hy,rfl⟩:=Aq.mp z;exact Am.mpr (hG.1.lt _ (hP.sub y hy))
  rw[A3,At]at this;omega
 have sep:∀x∈P,∀y∈P',cl x.1 y.1=true->False:=λx aH y hy hc=>by obtain⟨G',be,fL⟩:=(h.mem x.1).mp (Cd aH);exact bY G' be y.1 ((hd G' be).2 x.1 fL y.1 (hG.1.lt _ (hP.sub y hy)) hc) (hP.sub y hy)
 refine⟨K',P++P',sC (jI P'),?_,aB,λx=>?_,λx aH y hy hc=>?_,λx aH=>?_,hL,hKm⟩
 .refine v9 (Q8 e1) (v9 e2 ?_);show (if (jH P).Nodup/\(jH P).length+(jH P').length<=f8 then some (Out.nx [sC (jL R m),sC (x5 K'),some (.od (pO (jH P) (jU P) (jH P') (jU P')).1 (pO (jH P) (jU P) (jH P') (jU P')).2),sC (.lst (G.map x5)),sC (jI P')]) else none)=_;rw[Ap]at ab;rw[y6 ⟨CV h.nd,by unfold jH;rw[A3,A3];unfold f8;omega⟩,SU P' P aB]
  rfl
 .rw[B9,Az,h.mem];constructor
  .rintro (⟨G',be,aH⟩|aH)
   .exact⟨G',Bn _ be,aH⟩
   .obtain⟨y,hy,rfl⟩:=Aq.mp aH;exact⟨G,Ab _ (Ag.mpr rfl),hP.sub y hy⟩
  .rintro ⟨G',be,aH⟩;rcases Az.mp be with z|z
   .exact .inl ⟨G',z,aH⟩
   .rw[Ag.mp z]at aH;exact .inr (hP.full hG.1.nd hl x aH)
 .rcases Az.mp aH with z|z<;>rcases Az.mp hy with z'|z'
  .exact h.ok x z y z' hc
  .exact u3 hc λhc=>sep x z y z' hc
  .exact u3 hc λhc=>sep y z' x z (by rw[hg.sy];exact hc)
  .exact hP.ok x z y z' hc
 .rcases Az.mp aH with z|z
  .have:=h.lt x z
   omega
  .have:=(hP.use x.2).mp ⟨x,z,rfl⟩
   have:=hP.uK
   omega
theorem PJ(hg:jN cl m R)(hm:m<=11):∀(Gs done:List (List Nat)) (K:Nat) (P:List (Nat×Nat)) (c3 c4:Option Cell),(∀G'∈done++Gs,oC m G'/\xA cl m G')->((done++Gs).Pairwise λG G'=>∀x∈G,x∉G')->PI cl m done K P ->
  ∃K' P' iB cj,kR (u4 3) TH (Gs.map λG=>.lst (G.map x5)) (o8 R m K P c3 c4)=some (.nx (o8 R m K' P' iB cj))/\PI cl m (done++Gs) K' P'
 | [],done,K,P,c3,c4,_,_,h=>⟨K,P,c3,c4,rfl,by rw[Cr];exact h⟩
 |G::Gs,done,K,P,c3,c4,hd,bY,h=>by
  have e0:done++G::Gs=(done++[G])++Gs:=by rw[Cp];rfl
  obtain⟨K1,P1,c41,e1,h1⟩:=Ϭ hg hm (done:=done) (G:=G) (λG' be=>hd G' (Bn _ be)) (hd G (Ab _ A6)) (λG' be=>(Dy.mp bY).2.2 G' be G A6) h (c4:=c4);rw[e0]at hd bY ⊢;obtain⟨K2,P2,c32,c42,e2,h2⟩:=PJ hg hm Gs (done++[G]) K1 P1 (sC (.lst (G.map x5))) c41 hd bY h1;exact⟨K2,P2,c32,c42,by rw[Ai];exact(uR rfl e1).trans e2,h2⟩
structure oV(cl:Nat->Nat->Bool)(m K:Nat)(P:List (Nat×Nat)):Prop where
 nd:(P.map Bo).Nodup
 mem:∀x,x∈P.map Bo↔x<m
 ok:∀x∈P,∀y∈P,cl x.1 y.1=true->x.2≠y.2
 lt:∀x∈P,x.2<K
 least:pG cl m K
def Ω(hg:jN cl m R)(aB:∀t,t<m->(R t).Nodup)(hm:m<=11){K:Nat}(hK:K<=m)(hL:pG cl m K):∃K' P,DQ [jL R m,x5 K]=some (jI P)/\oV cl m K' P:=by
 obtain⟨Gs,e0,g1,g2,g3,_⟩:=Ĥ hg aB;obtain⟨K',P,c3,c4,e1,h⟩:=PJ hg hm Gs [] K [] none none g1 g2 ⟨Ep,λx=>by simp,λx hx=>by simp at hx,λx hx=>by simp at hx,hL,hK⟩;refine⟨K',P,?_,h.nd,λx=>?_,h.ok,h.lt,h.least⟩
 .show lM (HJ [sC (jL R m),sC (x5 K),none,none,none])=_
  have fin:HJ [sC (jL R m),sC (x5 K),none,none,none]=some (.rt (jI P)):=by refine v9 (Y':=o8 R m K [] none none) rfl ?_;exact v9 ((oZ (nU ((v8 (ds:=[jL R m]) rfl).trans e0))).trans e1) rfl
  rw[fin];rfl
 .rw[h.mem];constructor
  .rintro ⟨G,hG,hx⟩;exact(g1 G hG).1.lt x hx
  .exact λhx=>g3 x hx
end
def OO(m:Nat)(cl:Nat->Nat->Bool)(k:Nat):Y3 m cl (k+1)=Y3 m cl k++(((Aa (m-(k+1))).map λq=>k+1+q).filter (cl k)).map λ(j:Nat)=>((k:Int),(j:Int)):=by unfold Y3;rw[Kn,List.flatMap_append,List.flatMap_singleton]
def T5:EO:=J6 (i4 7 (lG (Q5 [none,some 6,some 3,some 2] (sM (d2 jE (y3 5) (dI 1)) (kE (b9 (y3 3)))) (u4 0) (u0 (x8 Q9 (z9 (y3 1) (z9 (i3 (b9 (y3 2)) (y3 0)) (kM 3))))) (y3 0))))
 (o6 4 (Q5 [none,some 5] (b9 (y3 7)) (u4 0) lH (jP (jQ 1 0))))
abbrev uF(W R:D)(k:Ba)(sp found:List D)(c5 c6 c7:Option Cell):J5:=[sC W,sC R,sC (.str k),sC (.lst sp),some (.ow found),c5,c6,c7]
def X4{W R:D}{k w:Ba}(hk:yJ.lookup k=some w){r:List Int}{ts:List d3}{i:Nat}{found:List d3}{c7:Option Cell}(hi:i<ts.length)(hm:ts.length<=12)(hf:found.length<=1000):
  ∃dw,T5 (uF W R k (ts.map λt=>j8 (kC r t)) (found.map j8) (sC (.int (i:Int))) (sC (j8 (i5 r ts i))) c7) =
   some (.nx (uF W R k (ts.map λt=>j8 (kC r t)) ((found++(((Aa (ts.length-(i+1))).map λq=>i+1+q).filter (jG r ts w i)).map λ(j:Nat)=>((i:Int),(j:Int))).map j8) (sC (.int (i:Int))) (sC (j8 (i5 r ts i))) dw)):=by
 generalize ejs:((Aa (ts.length-(i+1))).map λq=>i+1+q)=js
 have hjs:∀j∈js,j<ts.length:=λj hj=>by
  rw[<-ejs]at hj;obtain⟨q,hq,rfl⟩:=Aq.mp hj
  have:=Am.mp hq
  omega
 have hjl:js.length<=12:=by rw[<-ejs,A3,At];omega
 have e0:sM (d2 jE (y3 5) (dI 1)) (kE (b9 (y3 3))) (uF W R k (ts.map λt=>j8 (kC r t)) (found.map j8) (sC (.int (i:Int))) (sC (j8 (i5 r ts i))) c7)=some (js.map λ(j:Nat)=>D.int (j:Int)):=by
  have:=Ż (fa:=d2 jE (y3 5) (dI 1)) (fb:=kE (b9 (y3 3))) (Y:=uF W R k (ts.map λt=>j8 (kC r t)) (found.map j8) (sC (.int (i:Int))) (sC (j8 (i5 r ts i))) c7) (i:=(i:Int)+1) (j:=((ts.map λt=>j8 (kC r t)).length:Int)) rfl rfl
   (by unfold nG;rw[Y1 ⋯,Y1 ⋯];rfl) (by rw[A3];unfold nG;rw[Y1 ⋯,Y1 ⋯];rfl)
  rw[this,<-ejs,A3,B2,show ((ts.length:Int)-((i:Int)+1)).toNat=ts.length-(i+1) by omega];unfold Q6;rfl
 have e1:Q5 [none,some 6,some 3,some 2] (sM (d2 jE (y3 5) (dI 1)) (kE (b9 (y3 3)))) (u4 0) (u0 (x8 Q9 (z9 (y3 1) (z9 (i3 (b9 (y3 2)) (y3 0)) (kM 3))))) (y3 0) (uF W R k (ts.map λt=>j8 (kC r t)) (found.map j8) (sC (.int (i:Int))) (sC (j8 (i5 r ts i))) c7) =
   some ((js.filter (jG r ts w i)).map λ(j:Nat)=>D.int (j:Int)):=by
  refine(nM e0 (by rw[A3];unfold f8;omega)).trans ?_
  refine(W6 (λY=>∃c0,Y=[c0,sC (j8 (i5 r ts i)),sC (.lst (ts.map λt=>j8 (kC r t))),sC (.str k)]) (λd=>match d with|.int j=>jG r ts w i j.toNat|_=>false) id _ _ ⟨none,rfl⟩ ?_).trans ?_
  .rintro d hd Y ⟨c0,rfl⟩;obtain⟨j,hj,rfl⟩:=Aq.mp hd;refine⟨_,rfl,⟨_,rfl⟩,W5 ?_,λ_=>rfl⟩;refine(v8 (ds:=[j8 (i5 r ts i),j8 (i5 r ts j),.str k]) (u7 rfl (u7 ((lN (ds:=ts.map λt=>j8 (kC r t)) rfl rfl).trans (wN (hjs j hj))) rfl))).trans ?_;rw[P3 hk];show some (D.bl (jG r ts w i j))=some (D.bl (jG r ts w i (j:Int).toNat));rw[Av]
  .rw[Lj,Mv];rfl
 refine⟨sC (.lst ((js.filter (jG r ts w i)).map λ(j:Nat)=>D.int (j:Int))),v9 (Q8 (oE e1)) ?_⟩
 have e2:Q5 [none,some 5] (b9 (y3 7)) (u4 0) lH (jP (jQ 1 0)) (uF W R k (ts.map λt=>j8 (kC r t)) (found.map j8) (sC (.int (i:Int))) (sC (j8 (i5 r ts i))) (sC (.lst ((js.filter (jG r ts w i)).map λ(j:Nat)=>D.int (j:Int))))) =
   some (((js.filter (jG r ts w i)).map λ(j:Nat)=>((i:Int),(j:Int))).map j8):=by
  refine(nM (ds:=(js.filter (jG r ts w i)).map λ(j:Nat)=>D.int (j:Int)) rfl (by rw[A3];have:=Ea (jG r ts w i) js;unfold f8;omega)).trans ?_
  refine(vG (λY=>∃c0,Y=[c0,sC (.int (i:Int))]) (λd=>.tup [.int (i:Int),d]) _ _ ⟨none,rfl⟩ ?_).trans ?_
  .rintro d hd Y ⟨c0,rfl⟩;exact⟨_,rfl,⟨_,rfl⟩,nV (ds:=[.int (i:Int),d]) rfl (show 2<=f8 by decide)⟩
  .rw[B2,B2];rfl
 refine(T7 (ds:=found.map j8) rfl e2 ?_).trans ?_
 .rw[A3,A3,A3]
  have:=Ea (jG r ts w i) js
  unfold f8;omega
 .rw[B9];rfl
theorem Rk{k w:Ba}(hk:yJ.lookup k=some w){ts:List d3}(hm:ts.length<=12):∀(gT:List d3) (i:Nat) (c5 c6 c7:Option Cell),ts.drop i=gT->i+gT.length=ts.length->(Y3 ts.length (jG r ts w) i).length<=i*12 ->
  ∃hU cW dw,kR (nK 2 (Z9 (u4 5) (Z9 (u4 6) (nJ)))) T5 (nA i (gT.map λt=>j8 (kC r t))) (uF W R k (ts.map λt=>j8 (kC r t)) ((Y3 ts.length (jG r ts w) i).map j8) c5 c6 c7) =
   some (.nx (uF W R k (ts.map λt=>j8 (kC r t)) ((Y3 ts.length (jG r ts w) ts.length).map j8) hU cW dw))
 | [],i,c5,c6,c7,hd,hl,hp=>by
  have:i=ts.length:=by simpa using hl
  subst this;exact⟨c5,c6,c7,rfl⟩
 |t::gT,i,c5,c6,c7,hd,hl,hp=>by
  rw[Au]at hl
  have hi:i<ts.length:=by omega
  have ht:ts[i]?=some t:=by rw[<-List.head?_drop,hd];rfl
  obtain⟨dw,e⟩:=X4 (W:=W) (R:=R) hk (r:=r) (ts:=ts) (i:=i) (found:=Y3 ts.length (jG r ts w) i) (c7:=c7) hi hm ⋯;rw[<-OO]at e
  have bS:ts.drop (i+1)=gT:=by rw[<-List.drop_drop,hd];rfl
  have hp':(Y3 ts.length (jG r ts w) (i+1)).length<=(i+1)*12:=by
   rw[OO,Ap,A3]
   have:=Ea (jG r ts w i) ((Aa (ts.length-(i+1))).map λq=>i+1+q)
   rw[A3,At]at this;omega
  obtain⟨d5,d6,d7,ih⟩:=Rk hk hm gT (i+1) (sC (.int (i:Int))) (sC (j8 (i5 r ts i))) dw bS ⋯ hp';refine⟨d5,d6,d7,?_⟩;rw[Ai];rw[<-AM (r:=r) ht];exact(uR rfl e).trans ih
def Wa{k w:Ba}(hk:yJ.lookup k=some w){ts:List d3}{r:List Int}(hn:r.Nodup)(hr:r.length<=1000)(ht:ts.length<=12)(hm:∀t∈ts,t.1∈r/\t.2∈r):
  zC [d9 n ts,.tup (r.map D.int),.str k]=some (.tup ((Y3 ts.length (jG r ts w) ts.length).map j8)):=by
 obtain⟨c5,c6,c7,e⟩:=Rk (W:=d9 n ts) (R:=.tup (r.map D.int)) hk (r:=r) (ts:=ts) ht ts 0 none none none rfl ⋯ (by unfold Y3;simp)
 refine nP (x:=Po [sC (d9 n ts),sC (.tup (r.map D.int)),sC (.str k),none,none,none,none,none]) ?_;refine v9 (Q8 ((v8 (ds:=[d9 n ts,.tup (r.map D.int)]) rfl).trans (HM hn hr ⋯ hm))) ?_;refine v9 (wC (ds:=[]) (zT (ds:=[]) rfl ∅)) ?_;refine v9 ((oZ (ds:=nA 0 (ts.map λt=>j8 (kC r t))) rfl).trans e) ?_;exact lU (qV rfl)
def other(i:Nat)(q:Nat×Nat):Option Nat:=if q.1=i then some q.2 else if q.2=i then some q.1 else none
def n5(qs:List (Nat×Nat))(i:Nat):List Nat:=qs.filterMap (other i)
def uJ(l:List Nat):List Int:=l.map λ(j:Nat)=>(j:Int)
def YT{α:Type}(f:Nat->α)(x:α):((Aa m).map f).set a x=(Aa m).map λi=>if i=a then x else f i:=by
 apply Jl;intro i;rw[List.getElem?_set,Ao];by_cases hi:i<m
 .rw[Ao,F8 hi];by_cases c:a=i
  .subst c;rw[y6 rfl,y6 (by rw[A3,At];exact hi)]
   simp
  .rw[y8 c]
   have:¬i=a:=λz=>c z.symm
   simp[this]
 .have hn:(Aa m)[i]?=none:=Fq (by rw[At];omega)
  rw[Ao,hn];by_cases c:a=i
  .subst c;rw[y6 rfl,y8 (by rw[A3,At];exact hi)]
   rfl
  .rw[y8 c];rfl
def PL{m a b:Nat}(f:Nat->List Int)(h:a<m):pC ((Aa m).map f) a b=(Aa m).map λi=>if i=a then f i++[(b:Int)] else f i:=by
 unfold pC
 have:((Aa m).map f).getD a []=f a:=by rw[Cv,Ao,F8 h];rfl
 rw[this,YT];refine B6 λi _=>?_;by_cases c:i=a
 .subst c;simp
 .rw[y8 c,y8 c]
theorem So{m:Nat}:∀(qs:List (Nat×Nat)) (f:Nat->List Nat),(∀q∈qs,q.1<m/\q.2<m/\q.1≠q.2)->qs.foldl sQ ((Aa m).map λi=>uJ (f i))=(Aa m).map λi=>uJ (f i++n5 qs i)
 | [],f,_=>by rw[List.foldl_nil];refine B6 λi _=>?_;unfold n5;rw[List.filterMap_nil,Cr]
 |q::qs,f,h=>by
  have hq:=h q A6;have ih:=So qs (λi=>f i++(other i q).toList) λq' ik=>h q' (A7 _ ik)
  have e:sQ ((Aa m).map λi=>uJ (f i)) q=(Aa m).map λi=>uJ (f i++(other i q).toList):=by
   unfold sQ;rw[PL _ hq.1,PL _ hq.2.1];refine B6 λi _=>?_;unfold other uJ;by_cases c1:i=q.1
   .have c2:¬i=q.2:=λz=>hq.2.2 ⋯;rw[y8 c2,y6 c1,y6 c1.symm,B9];rfl
   .by_cases c2:i=q.2
    .rw[y6 c2,y8 c1,y8 (λz=>c1 z.symm),y6 c2.symm,B9];rfl
    .rw[y8 c2,y8 c1,y8 (λz=>c1 z.symm),y8 (λz=>c2 z.symm)];simp
  rw[Ik,e,ih];refine B6 λi _=>?_;unfold n5;rw[Cs,Cp];cases other i q<;>rfl
def Α{qs:List (Nat×Nat)}(h:∀q∈qs,q.1<q.2){i j:Nat}:j∈n5 qs i↔(i,j)∈qs\/(j,i)∈qs:=by
 unfold n5;rw[Ew];constructor
 .rintro ⟨⟨a,b⟩,hq,e⟩;unfold other at e;dsimp only at e;split at e
  .rename_i c;cases e;rw[c]at hq;exact .inl hq
  .split at e
   .rename_i c;cases e;rw[c]at hq;exact .inr hq
   .cases e
 .rintro (hq|hq)
  .exact⟨(i,j),hq,by unfold other;rw[y6 rfl]⟩
  .refine⟨(j,i),hq,?_⟩
   have:=h _ hq
   dsimp only at this;unfold other;right;rw[y8 ⋯,y6 rfl]
def ĉ{qs:List (Nat×Nat)}(h:∀q∈qs,q.1<q.2)(hn:qs.Nodup)(i:Nat):(n5 qs i).Nodup:=by
 unfold n5;rw[Nw,Iv];refine hn.imp_of_mem λ{a b} ha hb am x hx y hy e=>am ?_;have h1:=h a ha;have h2:=h b hb;obtain⟨a1,a2⟩:=a;obtain⟨b1,b2⟩:=b;subst e;unfold other at hx hy;dsimp only at h1 h2 hx hy;split at hx
 .split at hy
  .cases hx;cases hy;rename_i c1 c2;rw[c1,c2]
  .split at hy
   .cases hx;cases hy;omega
   .cases hy
 .split at hx
  .split at hy
   .cases hx;cases hy;omega
   .split at hy
    .cases hx;cases hy;exact Op rfl (by right;omega)
    .cases hy
  .cases hx
section
variable{n:Int}{ts:List d3}{r:List Int}{k w:Ba}
def mV(ts:List d3)(r:List Int)(w:Ba):List (Nat×Nat):=(Y3 ts.length (jG r ts w) ts.length).map λt=>(t.1.toNat,t.2.toNat)
def zH{i j:Nat}:(i,j)∈mV ts r w↔i<j/\j<ts.length/\jG r ts w i j=true:=by
 unfold mV;rw[Aq];constructor
 .rintro ⟨t,ht,e⟩;obtain⟨a,b,rfl,_,h1,h2,h3⟩:=wY.mp ht;have e1:=lE Bo e;have e2:=lE Mk e;simp only[Av]at e1 e2;subst e1;subst e2;exact⟨h1,h2,h3⟩
 .rintro ⟨h1,h2,h3⟩;exact⟨((i:Int),(j:Int)),wY.mpr ⟨i,j,rfl,⋯,h1,h2,h3⟩,by simp⟩
def WA:(mV ts r w).Nodup:=by unfold mV;rw[Nw,Bu];refine((Oz ts.length ts.length (jG r ts w)).imp_of_mem λ{a b} ha hb ak e=>?_);obtain⟨i,j,rfl,_,_,_,_⟩:=wY.mp ha;obtain⟨i',j',rfl,_,_,_,_⟩:=wY.mp hb;have e1:=lE Bo e;have e2:=lE Mk e;simp only[Av]at e1 e2;subst e1;subst e2;exact uU _ ak
theorem QU:∀ps:List d3,(∀t∈ps,0<=t.1/\0<=t.2)->tJ (ps.map j8)=some (ps.map λt=>(t.1.toNat,t.2.toNat))
 | [],_=>rfl
 |t::ps,h=>by
  have ih:=QU ps λt' h'=>h t' (A7 _ h');have ht:=h t A6;rw[Ai,tJ]
  have e:AV (j8 t)=some (t.1.toNat,t.2.toNat):=by show (if 0<=t.1/\0<=t.2 then some (t.1.toNat,t.2.toNat) else none)=_;rw[y6 ht]
  rw[e];right;rw[ih];rfl
theorem EV(hk:KW k w)(i:Nat):jG r ts w i i=false:=by
 cases hc:jG r ts w i i with
 |false=>rfl
 |true=>unfold jG mF at hc;rw[y6 (.inl rfl),hk.meet]at hc;cases hc
def WC(h:lA n ts r)(hk:KW k w):jN (jG r ts w) ts.length (n5 (mV ts r w))/\∀t,(n5 (mV ts r w) t).Nodup:=by
 have ak:∀q∈mV ts r w,q.1<q.2:=λq hq=>(zH (i:=q.1) (j:=q.2).mp hq).1;have aB:=λt=>ĉ ak (WA (ts:=ts) (r:=r) (w:=w)) t
 have aJ:∀t,t<ts.length->∀j,j∈n5 (mV ts r w) t↔j<ts.length/\jG r ts w t j=true:=λt ht j=>by
  rw[Α ak,zH,zH];constructor
  .rintro (⟨h1,h2,h3⟩|⟨h1,h2,h3⟩)
   .exact⟨h2,h3⟩
   .exact⟨⋯,by rw[BW];exact h3⟩
  .rintro ⟨h1,h2⟩;rcases Lr t j with c|c|c
   .exact .inl ⟨c,h1,h2⟩
   .subst c;rw[EV hk]at h2;cases h2
   .exact .inr ⟨c,ht,by rw[BW];exact h2⟩
 refine⟨⟨λi j=>BW i j,EV hk,aJ,λt ht=>?_,h.m12⟩,aB⟩
 have:=W1 (n5 (mV ts r w) t) (Aa ts.length) (aB t) λj hj=>Am.mpr ((aJ t ht j).mp hj).1
 rw[At]at this
 have:=h.m12
 omega
def ĥ(h:lA n ts r)(hk:KW k w):HA [d9 n ts,.tup (r.map D.int),.str k]=some (jL (n5 (mV ts r w)) ts.length):=by
 have m12:=h.m12;have ec:=Wa (n:=n) hk.tab h.nd h.rl h.m12 h.mem
 have hps:∀t∈Y3 ts.length (jG r ts w) ts.length,0<=t.1/\0<=t.2:=λt ht=>by obtain⟨i,j,rfl,_,_,_,_⟩:=wY.mp ht;exact⟨Int.natCast_nonneg _,Int.natCast_nonneg _⟩
 have hl:(mV ts r w).length<=1000:=by
  unfold mV;rw[A3,<-Θ,(rD _).length_eq]
  have:=NY (jG r ts w) ts.length m12
  omega
 have cu:((mV ts r w).all λq=>decide (q.1<ts.length)&&decide (q.2<ts.length))=true:=by
  rw[Fg];intro q hq
  have:=(zH (i:=q.1) (j:=q.2)).mp hq
  rw[Y1 ⋯,Y1 this.2.1];rfl
 show lM (vQ 3 4 5 _ _ [sC (d9 n ts),sC (.tup (r.map D.int)),sC (.str k),none,none,none])=_
 have fin:vQ 3 4 5 (b9 (jF 0 1)) (b9 (x8 zC (lK 0 1 2))) [sC (d9 n ts),sC (.tup (r.map D.int)),sC (.str k),none,none,none]=some (.rt (jL (n5 (mV ts r w)) ts.length)):=by
  unfold vQ;have e1:b9 (jF 0 1) [sC (d9 n ts),sC (.tup (r.map D.int)),sC (.str k),none,none,none]=some (ts.map j8):=rfl;have e2:b9 (x8 zC (lK 0 1 2)) [sC (d9 n ts),sC (.tup (r.map D.int)),sC (.str k),none,none,none]=some ((Y3 ts.length (jG r ts w) ts.length).map j8):=rZ ((v8 (ds:=[d9 n ts,.tup (r.map D.int),.str k]) rfl).trans ec);rw[e1,e2];right;rw[QU _ hps,A3];right
  rw[y6]
  .have hf:=So (m:=ts.length) (mV ts r w) (λ_=>[]) λq hq=>by
    have:=(zH (i:=q.1) (j:=q.2)).mp hq
    omega
   have e0:(Aa ts.length).map (λi=>uJ ((λ_=>[]) i))=Bf ts.length []:=by rw[List.map_const',At];rfl
   rw[e0]at hf;unfold mV at hf;rw[hf];unfold jL;rw[B2];congr 3;refine B6 λi _=>?_;show FZ (uJ ([]++n5 _ i))=_;rw[Kj];unfold FZ uJ;rw[B2];rfl
  .unfold EZ;unfold mV at hl cu;rw[cu,Y1 (show ts.length<=1000 by omega),Y1 hl];rfl
 rw[fin];rfl
def sU(r:List Int)(ts:List d3):List Nat:=(Aa ts.length).isrt (pX r ts)
def JG{i:Nat}:i∈sU r ts↔i<ts.length:=by unfold sU;rw[(sE _ _).mem_iff,Am]
def Qq:(sU r ts).Nodup:=by unfold sU;exact(sE _ _).nodup_iff.mpr D2
def yI(r:List Int)(ts:List d3)(x y:Nat):Prop:=(i5 r ts x).1<(i5 r ts y).1/\(i5 r ts y).2<(i5 r ts x).2
def Å(h:lA n ts r){x y:Nat}(hx:x<ts.length)(hy:y<ts.length)(hn:yI r ts x y):jG r ts "within" x y=true:=by rw[AC];have z:jM (i5 r ts x) (i5 r ts y):=.inl hn.1;exact(Qk z (h.sp_ok hx).2.1 (h.sp_ok hy).2.1).mpr hn
def Ÿ(h:lA n ts r){x y:Nat}(hx:x<ts.length)(hy:y<ts.length)(z:jM (i5 r ts x) (i5 r ts y))(hc:jG r ts "within" x y=true):yI r ts x y:=(Qk z (h.sp_ok hx).2.1 (h.sp_ok hy).2.1).mp (AC.mp hc)
def uC(r:List Int)(ts:List d3)(t v:Nat):Prop:=∃S:List Nat,(S++[t]).Pairwise (yI r ts)/\S.length=v/\∀x∈S,x<ts.length
def uC.more(h:uC r ts s v)(hs:s<ts.length)(hn:yI r ts s t):uC r ts t (v+1):=by
 obtain⟨S,h1,h2,h3⟩:=h;refine⟨S++[s],?_,by rw[Ap,Bg,h2],λx hx=>?_⟩
 .rw[Dy];refine⟨h1,Df _ _,λa ha b hb=>?_⟩;rw[Ag.mp hb];rcases Az.mp ha with z|z
  .have:=(Dy.mp h1).2.2 a z s (Ag.mpr rfl)
   unfold yI at this hn ⊢;omega
  .rw[Ag.mp z];exact hn
 .rcases Az.mp hx with z|z
  .exact h3 x z
  .rw[Ag.mp z];exact hs
def NZ(hF:NR m cl F):pG cl m F.length:=λc K' hc=>by
 have:=W1 (F.map c) (Aa K') (Bu.mpr (hF.pw.imp_of_mem λ{a b} ha hb q=>hc.ne a b (hF.lt a ha) (hF.lt b hb) q)) λx hx=>by obtain⟨y,hy,rfl⟩:=Aq.mp hx;exact Am.mpr (hc.lt y (hF.lt y hy))
 rw[A3,At]at this;exact this
def uC.least(h:lA n ts r){t v:Nat}(ht:t<ts.length)(hc:uC r ts t v):pG (jG r ts "within") ts.length (v+1):=by
 obtain⟨S,h1,h2,h3⟩:=hc
 have ak:∀x∈S++[t],x<ts.length:=λx hx=>by
  rcases Az.mp hx with z|z
  .exact h3 x z
  .rw[Ag.mp z];exact ht
 have:=NZ (F:=S++[t]) ⟨h1.imp_of_mem λ{a b} ha hb q=>Å h (ak a ha) (ak b hb) q,h1.imp λ{a b} q e=>by unfold yI at q;subst e;omega,ak⟩
 rw[Ap,Bg,h2]at this;exact this
theorem P6(h:lA n ts r):∀P:List (Nat×Nat),(∀x∈P,x.1<ts.length/\uC r ts x.1 x.2)->∃K,(∀x∈P,x.2<K)/\pG (jG r ts "within") ts.length K
 | [],_=>⟨0,(λx h=>by cases h),λ_ _ _=>Bh _⟩
 |y::P,hP=>by
  obtain⟨K,h1,h2⟩:=P6 h P λx hx=>hP x (A7 _ hx);have hy:=hP y A6;by_cases c:y.2<K
  .exact⟨K,λx hx=>(Ac.mp hx).elim (λz=>z▸c) (h1 x),h2⟩
  .refine⟨y.2+1,λx hx=>(Ac.mp hx).elim (λz=>by rw[z];omega) λz=>?_,hy.2.least h hy.1⟩
   have:=h1 x z
   omega
structure QI(r:List Int)(ts:List d3)(done:List Nat)(P:List (Nat×Nat)):Prop where
 keys:P.map Bo=done
 ok:∀x∈P,∀y∈P,jG r ts "within" x.1 y.1=true->x.2≠y.2
 ch:∀x∈P,uC r ts x.1 x.2
def mex(T:List Nat):∃v,v∉T/\v<=T.length/\(∀v',v'<v->v'∈T)/\((Aa (T.length+1)).filter λj=>!decide (j∈T))≠[]:=by
 have am:((Aa (T.length+1)).filter λj=>!decide (j∈T))≠[]:=λe=>by
  rw[List.filter_eq_nil_iff]at e
  have:=W1 (Aa (T.length+1)) T D2 λx hx=>by
   have:=e x hx
   simpa using this
  rw[At]at this;omega
 have av:∀q,(∀v,v<q->v∈T)\/∃v,v<q/\v∉T/\∀v',v'<v->v'∈T:=λq=>by
  induction q with
  |zero=>exact .inl λv hv=>u3 hv (Fx _)
  |succ q ih=>
   rcases ih with z|⟨v,z1,z2,z3⟩
   .by_cases c:q∈T
    .exact .inl λv hv=>by
      by_cases e:v=q
      .rw[e];exact c
      .exact z v ⋯
    .exact .inr ⟨q,⋯,c,z⟩
   .exact .inr ⟨v,⋯,z2,z3⟩
 rcases av (T.length+1) with z|⟨v,z1,z2,z3⟩
 .exfalso
  have:=W1 (Aa (T.length+1)) T D2 λx hx=>z x (Am.mp hx)
  rw[At]at this;omega
 .exact⟨v,z2,⋯,z3,am⟩
def MY:ED:=xP (Q5 [none,some 6] (kF (d2 jE (kE (b9 (y3 6))) (dI 1))) (u4 0) (u0 (kN true (y3 0) (b9 (y3 1)))) (y3 0))
theorem Â{T:List Nat}(hl:T.length<=1000)(h6:y3 6 Y=some (.lst (T.map x5)))(hc:mD [none,some 6] Y=[none,sC (.lst (T.map x5))]):∃v,MY Y=some (x5 v)/\v∉T/\∀v',v'<v->v'∈T:=by
 obtain⟨v,v1,v2,v3,am⟩:=mex T;refine⟨v,?_,v1,v3⟩
 have e0:Q5 [none,some 6] (kF (d2 jE (kE (b9 (y3 6))) (dI 1))) (u4 0) (u0 (kN true (y3 0) (b9 (y3 1)))) (y3 0) Y=some (((Aa (T.length+1)).filter λj=>!decide (j∈T)).map x5):=by
  have er:kF (d2 jE (kE (b9 (y3 6))) (dI 1)) Y=some ((Aa (T.length+1)).map x5):=AL (j:=T.length+1) ((kP (x:=.int (T.length:Int)) (y:=.int 1) ((p7 (nU h6)).trans (by rw[A3])) rfl).trans rfl) ⋯;refine(nM er (by rw[A3,At];unfold f8;omega)).trans ?_
  rw[hc];refine(W6 (λY=>∃c,Y=[c,sC (.lst (T.map x5))]) (λd=>match d with|.int x=>!decide (x.toNat∈T)|_=>false) (λd=>d) _ _ ⟨none,rfl⟩ ?_).trans ?_
  .rintro d hd Y ⟨c,rfl⟩;obtain⟨j,hj,rfl⟩:=Aq.mp hd;refine⟨_,rfl,⟨_,rfl⟩,W5 ((KS true rfl rfl).trans ?_),λ_=>rfl⟩;show some (D.bl (!decide (j∈T)))=some (D.bl (!decide ((j:Int).toNat∈T)));rw[Av]
  .rw[Kw,yU (q:=λj=>!decide (j∈T)) _ (λi _=>by
    show (!decide ((i:Int).toNat∈T))=_
    rw[Av])]
 unfold MY xP;rw[e0];right;rw[BY];have hv:v∈(Aa (T.length+1)).filter λj=>!decide (j∈T):=B7.mpr ⟨Am.mpr ⋯,by simpa using v1⟩
 have iS:∀x∈(Aa (T.length+1)).filter λj=>!decide (j∈T),v<=x:=λx hx=>by
  have aH:x∉T:=by simpa using (B7.mp hx).2
  by_cases c:v<=x
  .exact c
  .exact u3 (v3 x ⋯) aH
 generalize (Aa (T.length+1)).filter (λj=>!decide (j∈T))=L at hv iS am
 cases L with
 |nil=>exact u3 rfl am
 |cons a L=>
  rw[Ai];right;have ho:=JZ (L.map λ(i:Nat)=>(i:Int)) (a:Int);rw[<-Ai (f:=λ(i:Nat)=>(i:Int))]at ho;obtain⟨x,hx,e⟩:=Aq.mp ho.1;have h1:=iS x hx;have h2:=ho.2 (v:Int) (Aq.mpr ⟨v,hv,rfl⟩);rw[<-e]at h2;rw[<-e]
  have:x=v:=by omega
  rw[this];rfl
def o9(n:Int)(ts:List d3)(r:List Int)(R:Nat->List Nat)(P:List (Nat×Nat))(c5 c6:Option Cell):J5:=[sC (d9 n ts),sC (.tup (r.map D.int)),sC (jL R ts.length),sC (Z8 r ts),some (.od (jH P) (jU P)),c5,c6]
def TN:EO:=
 (J6 (i4 6 (rH 4 (x8 J8 (lK 2 4 5))))
 (nO 4 (y3 5) MY))
theorem QQ:∀l:List Nat,tN (l.map x5)=true
 | []=>by simp[tN]
 |a::l=>by rw[Ai,tN,QQ l];rfl
def YF{c6:Option Cell}(et:J8 [jL R ts.length,jI P,x5 t]=some (.lst ((lW R P t).map x5))):rH 4 (x8 J8 (lK 2 4 5)) (o9 n ts r R P (sC (x5 t)) c6)=some (.lst ((lW R P t).map x5)):=by have e1:x8 J8 (lK 2 4 5) ((o9 n ts r R P (sC (x5 t)) c6).set 4 (sC (.dct (jH P) (jU P))))=some (.lst ((lW R P t).map x5)):=(v8 (ds:=[jL R ts.length,jI P,x5 t]) rfl).trans et;have e0:(o9 n ts r R P (sC (x5 t)) c6)[4]?=some (some (.od (jH P) (jU P))):=rfl;unfold rH;rw[e0];right;rw[e1];right;rw[y6 (by rw[tE];exact QQ _)]
def œ{fk fv:ED}(hv:fv Y=some (x5 v))(hk:fk Y=some (x5 t))(ho:qF i Y=some (jH P,jU P))(aB:(P.map Bo).Nodup)(hn:t∉P.map Bo)(hl:P.length<=1000):nO i fk fv Y=some (.nx (Y.set i (some (.od (jH (P++[(t,v)])) (jU (P++[(t,v)])))))):=by unfold nO;rw[hv];right;rw[ho];right;rw[hk];right;have ek:rQ (x5 t)=some (Cf (t:Int)):=rfl;rw[ek];right;rw[y6 ⟨CV aB,by unfold jH;rw[A3];unfold f8;omega⟩,FB hn]
def Ϸ(h:lA n ts r)(hg:jN (jG r ts "within") ts.length R)(hI:QI r ts done P)(hd:∀x∈done,x<ts.length/\jM (i5 r ts x) (i5 r ts t))(hn:done.Nodup)(ht:t<ts.length)(gR:t∉done){c6:Option Cell}:
  ∃v cW,TN (o9 n ts r R P (sC (x5 t)) c6)=some (.nx (o9 n ts r R (P++[(t,v)]) (sC (x5 t)) cW))/\QI r ts (done++[t]) (P++[(t,v)]):=by
 have m12:=h.m12
 have aB:(P.map Bo).Nodup:=by rw[hI.keys];exact hn
 have hk:t∉P.map Bo:=by rw[hI.keys];exact gR
 have au:P.length<=12:=by
  have:=W1 (P.map Bo) (Aa ts.length) aB λx hx=>Am.mpr (hd x (by rw[<-hI.keys];exact hx)).1
  rw[A3,At]at this;omega
 have et:=GO (P:=P) ht (hg.len t ht)
 have iL:(lW R P t).length<=1000:=by unfold lW;rw[A3];exact C7 (Ea _ _) (hg.len t ht)
 obtain⟨v,ev,v1,v2⟩:=Â (T:=lW R P t) (Y:=o9 n ts r R P (sC (x5 t)) (sC (.lst ((lW R P t).map x5)))) iL rfl rfl;have bF:∀x∈P,jG r ts "within" t x.1=true->x.2≠v:=λx hx hc e=>v1 ((CY aB).mpr ⟨x,hx,(hg.mem t ht x.1).mpr ⟨(hd x.1 (by rw[<-hI.keys];exact Cd hx)).1,hc⟩,e⟩)
 refine⟨v,sC (.lst ((lW R P t).map x5)),?_,?_,λx hx y hy hc=>?_,λx hx=>?_⟩
 .refine v9 (Y':=o9 n ts r R P (sC (x5 t)) (sC (.lst ((lW R P t).map x5)))) (Q8 (d:=.lst ((lW R P t).map x5)) ?_) ?_
  .exact YF et
  .exact(œ ev rfl rfl aB hk ⋯).trans rfl
 .rw[B9,hI.keys];rfl
 .rcases Az.mp hx with z|z<;>rcases Az.mp hy with z'|z'
  .exact hI.ok x z y z' hc
  .rw[Ag.mp z']at hc ⊢;exact bF x z (by rw[hg.sy];exact hc)
  .rw[Ag.mp z]at hc ⊢;exact λe=>bF y z' hc e.symm
  .rw[Ag.mp z,Ag.mp z',hg.ir]at hc;cases hc
 .rcases Az.mp hx with z|z
  .exact hI.ch x z
  .rw[Ag.mp z];show uC r ts t v
   cases v with
   |zero=>exact⟨[],Df _ _,rfl,λx hx=>by simp at hx⟩
   |succ v=>
    obtain⟨y,hy,y1,y2⟩:=(CY aB).mp (v2 v (E4 _));have hyd:=hd y.1 (by rw[<-hI.keys];exact Cd hy)
    have hc:=(hg.mem t ht y.1).mp y1
    have:=hI.ch y hy
    rw[y2]at this;exact this.more hyd.1 (Ÿ h hyd.1 ht hyd.2 (by rw[BW];exact hc.2))
theorem Uz(h:lA n ts r)(hg:jN (jG r ts "within") ts.length R):∀(rest done:List Nat) (P:List (Nat×Nat)) (c5 c6:Option Cell),done++rest=sU r ts->QI r ts done P ->
  ∃P' hU cW,kR (u4 5) TN (rest.map x5) (o9 n ts r R P c5 c6)=some (.nx (o9 n ts r R P' hU cW))/\QI r ts (sU r ts) P'
 | [],done,P,c5,c6,e,hI=>by rw[Cr]at e;subst e;exact⟨P,c5,c6,rfl,hI⟩
 |t::rest,done,P,c5,c6,e,hI=>by
  have hup:(sU r ts).Pairwise _:=h.sp_up D2 λi hi=>Am.mp hi;have aB:=Qq (r:=r) (ts:=ts);rw[<-e]at hup aB;have aJ:∀x∈done++t::rest,x<ts.length:=λx hx=>JG.mp (by rw[<-e];exact hx)
  have ha:=Dy.mp hup;have hb:=Cq.mp aB;obtain⟨v,cW,e1,hI'⟩:=Ϸ h hg hI (t:=t) (λx hx=>⟨aJ x (Bn _ hx),ha.2.2 x hx t A6⟩) hb.1 (aJ t (Ab _ A6)) (λz=>hb.2.2 t z t A6 rfl) (c6:=c6);obtain⟨P',hU,c6'',e2,h2⟩:=Uz h hg rest (done++[t]) (P++[(t,v)]) (sC (x5 t)) cW (by rw[Cp];exact e) hI'
  exact⟨P',hU,c6'',by rw[Ai];exact(uR rfl e1).trans e2,h2⟩
def Zj(h:lA n ts r)(hg:jN (jG r ts "within") ts.length R):∃K P,DS [d9 n ts,.tup (r.map D.int),jL R ts.length]=some (jI P)/\oV (jG r ts "within") ts.length K P:=by
 have m12:=h.m12;obtain⟨P,c5,c6,e1,hI⟩:=Uz (n:=n) h hg (sU r ts) [] [] none none rfl ⟨rfl,λx hx=>by simp at hx,λx hx=>by simp at hx⟩;have ak:∀x∈P,x.1<ts.length:=λx hx=>JG.mp (by rw[<-hI.keys];exact Cd hx)
 obtain⟨K,k1,k2⟩:=P6 h P λx hx=>⟨ak x hx,hI.ch x hx⟩;refine⟨K,P,?_,by rw[hI.keys];exact Qq,λx=>by rw[hI.keys];exact JG,hI.ok,k1,k2⟩
 have es:=HM (n:=n) h.nd h.rl h.hm' h.mem;show lM (HR [sC (d9 n ts),sC (.tup (r.map D.int)),sC (jL R ts.length),none,none,none,none])=_
 have eo:qT [none,some 3] (oM (kE (b9 (y3 3)))) (i3 (b9 (y3 1)) (y3 0)) (o9 n ts r R [] none none)=some ((sU r ts).map x5):=by
  unfold qT
  have e0:oM (kE (b9 (y3 3))) (o9 n ts r R [] none none)=some ((Aa ts.length).map x5):=by refine(DC (j:=(ts.length:Int)) ((p7 (ds:=ts.map λt=>j8 (kC r t)) rfl).trans (by rw[A3])) ⋯ ⋯).trans ?_;rw[Av];unfold kB;rw[B2];refine lE some (B6 λi _=>?_);show D.int (0+(i:Int))=D.int (i:Int);rw[Mr]
  rw[e0];right
  have ek:pB (i3 (b9 (y3 1)) (y3 0)) (mD [none,some 3] (o9 n ts r R [] none none)) ((Aa ts.length).map x5)=some ((Aa ts.length).map λi=>j8 (i5 r ts i)):=by
   refine(CC (f:=λd=>match d with|.int x=>j8 (i5 r ts x.toNat)|_=>.non) _ λd hd=>?_).trans ?_
   .obtain⟨i,hi,rfl⟩:=Aq.mp hd;show i3 (b9 (y3 1)) (y3 0) [sC (x5 i),sC (Z8 r ts)]=some (j8 (i5 r ts (i:Int).toNat));rw[Av];exact(lN (ds:=ts.map λt=>j8 (kC r t)) (j:=(i:Int)) rfl rfl).trans (wN (Am.mp hi))
   .rw[B2];refine lE some (B6 λi _=>?_);show j8 (i5 r ts (i:Int).toNat)=_;rw[Av]
  rw[ek];exact Th h D2 λi hi=>Am.mp hi
 have fin:HR [sC (d9 n ts),sC (.tup (r.map D.int)),sC (jL R ts.length),none,none,none,none]=some (.rt (jI P)):=by refine v9 (Q8 (d:=Z8 r ts) ((v8 (ds:=[d9 n ts,.tup (r.map D.int)]) rfl).trans es)) ?_;refine v9 (Y':=o9 n ts r R [] none none) rfl ?_;exact v9 ((oZ (nU (oE eo))).trans e1) rfl
 rw[fin];rfl
end
def nX(ks:List Nat)(p:Nat):List Nat:=if p∈ks then ks else ks++[p]
def oH(vs:List Nat):List Nat:=vs.foldl nX []
theorem LM:∀(vs ks:List Nat) (p:Nat),p∈vs.foldl nX ks↔p∈ks\/p∈vs
 | [],ks,p=>by simp
 |v::vs,ks,p=>by
  rw[Ik,LM vs,Ac];unfold nX;by_cases c:v∈ks
  .rw[y6 c];constructor
   .rintro (z|z)
    .exact .inl z
    .exact .inr (.inr z)
   .rintro (z|z|z)
    .exact .inl z
    .rw[z];exact .inl c
    .exact .inr z
  .rw[y8 c,Az,Ag,or_assoc]
theorem CS:∀(vs ks:List Nat),ks.Nodup->(vs.foldl nX ks).Nodup
 | [],ks,h=>h
 |v::vs,ks,h=>by
  rw[Ik];refine CS vs _ ?_;unfold nX;by_cases c:v∈ks
  .rw[y6 c];exact h
  .rw[y8 c,Cq];refine⟨h,Df _ _,λa ha b hb e=>c ?_⟩;rw[<-Ag.mp hb,<-e];exact ha
def kQ(ks:List Nat):List (Nat×Nat):=ks.map λp=>(p,ks.idxOf p)
def CT(ks:List Nat):(kQ ks).map Bo=ks:=by unfold kQ;rw[B2];exact(B6 (λp _=>rfl:∀p∈ks,(Bo∘λp=>(p,ks.idxOf p)) p=p)).trans (Lj _)
def Ϧ{ks:List Nat}{p:Nat}(h:p∉ks):kQ ks++[(p,ks.length)]=kQ (ks++[p]):=by
 unfold kQ;rw[B9];congr 1
 .refine B6 λq hq=>?_;rw[Lu,y6 hq]
 .show [(p,ks.length)]=[(p,(ks++[p]).idxOf p)];rw[Lu,y8 h,Hr,O2]
def Yw{ks:List Nat}{p:Nat}(hn:ks.Nodup)(h:p∈ks):(kQ ks).lookup p=some (ks.idxOf p):=(CB (by rw[CT];exact hn)).mpr (Cd (f:=λp=>(p,ks.idxOf p)) h)
def MD:EO:=uP 1 (y3 2) (rH 1 (vP (y3 1)))
def Ϥ{ks:List Nat}(hn:ks.Nodup)(hl:ks.length<=1000):MD [sC vD,some (.od (jH (kQ ks)) (jU (kQ ks))),sC (x5 p)]=some (.nx [sC vD,some (.od (jH (kQ (nX ks p))) (jU (kQ (nX ks p)))),sC (x5 p)]):=by
 have e1:rH 1 (vP (y3 1)) [sC vD,some (.od (jH (kQ ks)) (jU (kQ ks))),sC (x5 p)]=some (x5 ks.length):=by show (match some (D.int ((jH (kQ ks)).length:Int)) with|some d=>if tE d=true then some d else none|none=>none)=_;unfold jH kQ;rw[A3,A3];rfl
 have ek:rQ (x5 p)=some (Cf (p:Int)):=rfl;have e2:qF 1 [sC vD,some (.od (jH (kQ ks)) (jU (kQ ks))),sC (x5 p)]=some (jH (kQ ks),jU (kQ ks)):=rfl;have e3:y3 2 [sC vD,some (.od (jH (kQ ks)) (jU (kQ ks))),sC (x5 p)]=some (x5 p):=rfl
 have hk:((kQ ks).map Bo).Nodup:=by rw[CT];exact hn
 have hs:(lD (jH (kQ ks)) (jU (kQ ks)) (Cf (p:Int))).isSome=decide (p∈ks):=by rw[wG,G4,wU,CT]
 unfold MD uP;rw[e2];right;rw[e3];right;rw[ek];right;rw[e1];right;rw[y6 ⟨CV hk,by unfold jH kQ;rw[A3,A3];unfold f8;omega⟩,hs]
 unfold nX;by_cases c:p∈ks
 .rw[y6 (Y1 c),y6 c]
 .rw[y8 (by rw[W4 c];decide),y8 c,FB (by rw[CT];exact c),Ϧ c]
  rfl
theorem Ut:∀(vs ks:List Nat) (c2:Option Cell),ks.Nodup->ks.length+vs.length<=1000->∃jt,kR (u4 2) MD (vs.map x5) [sC vD,some (.od (jH (kQ ks)) (jU (kQ ks))),c2]=some (.nx [sC vD,some (.od (jH (kQ (vs.foldl nX ks))) (jU (kQ (vs.foldl nX ks)))),jt])
 | [],ks,c2,_,_=>⟨c2,rfl⟩
 |p::vs,ks,c2,hn,hl=>by
  rw[Au]at hl;have h1:(nX ks p).Nodup:=CS [p] ks hn
  have h2:(nX ks p).length<=ks.length+1:=by
   unfold nX;split
   .omega
   .rw[Ap,Bg];exact Ad _
  obtain⟨jt,e⟩:=Ut (vD:=vD) vs (nX ks p) (sC (x5 p)) h1 ⋯;refine⟨jt,?_⟩;rw[Ai];exact(uR rfl (Ϥ hn ⋯)).trans e
def WP{vs:List Nat}(hl:vs.length<=1000):IF [.lst (vs.map x5)]=some (.tup ((vs.map λp=>(oH vs).idxOf p).map x5)):=by
 obtain⟨c2,e⟩:=Ut (vD:=.lst (vs.map x5)) vs [] none Ep (by rw[Ed];omega)
 have hn:(oH vs).Nodup:=CS vs [] Ep;refine nP (x:=OW [sC (.lst (vs.map x5)),none,none]) ?_;refine v9 (Y':=[sC (.lst (vs.map x5)),some (.od (jH (kQ [])) (jU (kQ []))),none]) rfl ?_;refine v9 ((oZ (ds:=vs.map x5) rfl).trans e) ?_;show i9 (lR (Q5 [none,some 1] (b9 (y3 0)) (u4 0) lH (pH (y3 1) (y3 0)))) [sC (.lst (vs.map x5)),sC (jI (kQ (oH vs))),c2]=_;refine lU (qV ((nM (ds:=vs.map x5) rfl (by rw[A3];unfold f8;omega)).trans ?_))
 refine(vG (λY=>∃c,Y=[c,sC (jI (kQ (oH vs)))]) (λd=>match d with|.int x=>x5 ((oH vs).idxOf x.toNat)|_=>.non) _ _ ⟨none,rfl⟩ ?_).trans ?_
 .rintro d hd Y ⟨c,rfl⟩;obtain⟨p,hp,rfl⟩:=Aq.mp hd;refine⟨_,rfl,⟨_,rfl⟩,?_⟩;show lD (jH (kQ (oH vs))) (jU (kQ (oH vs))) (Cf (p:Int))=some (x5 ((oH vs).idxOf (p:Int).toNat));rw[wG,Yw hn (show p∈oH vs from (LM vs [] p).mpr (.inr hp)),Av];rfl
 .rw[B2,B2];refine lE some (B6 λp _=>?_);show x5 ((oH vs).idxOf (p:Int).toNat)=_;rw[Av];rfl
def GC(f:List Nat)(i:Nat):Nat:=f.getD i 0
structure uN(cl:Nat->Nat->Bool)(m K:Nat)(f:List Nat):Prop where
 len:f.length=m
 col:GJ cl m (GC f) K
 use:∀v,v∈f↔v<K
 least:pG cl m K
section
variable{n:Int}{ts:List d3}{r:List Int}{k w:Ba}{cl:Nat->Nat->Bool}{m K:Nat}{P:List (Nat×Nat)}
def Ss(h:oV cl m K P):uN cl m K (((Aa m).map λi=>(P.lookup i).getD 0).map λp=>(oH ((Aa m).map λi=>(P.lookup i).getD 0)).idxOf p):=by
 let c:Nat->Nat:=λi=>(P.lookup i).getD 0
 have hc:∀i,i<m->(i,c i)∈P:=λi hi=>by
  have hs:(P.lookup i).isSome=true:=by rw[wU,Y1 ((h.mem i).mpr hi)]
  obtain⟨v,hv⟩:=Ds.mp hs
  have:c i=v:=by show (P.lookup i).getD 0=v;rw[hv];rfl
  rw[this];exact(CB h.nd).mp hv
 let vs:=(Aa m).map c
 let ks:=oH vs
 have bC:∀p,p∈ks↔∃i,i<m/\c i=p:=λp=>by show p∈vs.foldl nX []↔_;rw[LM,Aq];simp[Am]
 have hn:ks.Nodup:=CS vs [] Ep
 have ab:ks.length<=K:=by
  have:=W1 ks (Aa K) hn λp hp=>by obtain⟨i,hi,rfl⟩:=(bC p).mp hp;exact Am.mpr (h.lt _ (hc i hi))
  rw[At]at this;exact this
 have gE:∀i,i<m->GC (vs.map λp=>ks.idxOf p) i=ks.idxOf (c i):=λi hi=>by unfold GC;rw[Cv,Ao,Ao,F8 hi];rfl
 have eQ:GJ cl m (GC (vs.map λp=>ks.idxOf p)) ks.length:=by
  refine⟨λi hi=>?_,λi j hi hj ar e=>?_⟩
  .rw[gE i hi];exact B1 ((bC _).mpr ⟨i,hi,rfl⟩)
  .rw[gE i hi,gE j hj]at e
   have:=Rp ((bC _).mpr ⟨i,hi,rfl⟩) ((bC _).mpr ⟨j,hj,rfl⟩) e
   exact h.ok _ (hc i hi) _ (hc j hj) ar this
 have hK:ks.length=K:=by
  have:=h.least _ _ eQ
  omega
 refine⟨by rw[A3,A3,At],by rw[<-hK];exact eQ,?_,h.least⟩
 intro v;rw[Aq,<-hK];constructor
 .rintro ⟨p,hp,rfl⟩;obtain⟨i,hi,rfl⟩:=Aq.mp hp;exact B1 ((bC _).mpr ⟨i,Am.mp hi,rfl⟩)
 .intro hv;obtain⟨i,hi,e⟩:=(bC ks[v]).mp (Bv hv);exact⟨c i,Aq.mpr ⟨i,Am.mpr hi,rfl⟩,by rw[e];exact hn.idxOf_getElem v hv⟩
def ģ(h:lA n ts r)(hm:ts.length<=11)(hk:KW k w):
  ∃(f:List Nat) (K:Nat),Y8 [d9 n ts,.tup (r.map D.int),.str k]=some (.tup (f.map x5))/\uN (jG r ts w) ts.length K f:=by
 have m12:=h.m12;obtain⟨hg,aB⟩:=WC h hk;have er:=ĥ h hk;generalize n5 (mV ts r w)=R at hg aB er
 have av:∀(K:Nat) (P:List (Nat×Nat)),oV (jG r ts w) ts.length K P->(jV (u0 (d2 lY (y3 2) (dC (.str "queue"))))
   (i4 4 (x8 DS (lK 0 1 3)))
   (i4 4 (x8 DQ (z9 (y3 3) (z9 (kE (b9 (x8 DA (lK 0 1 2)))) Q7))))) [sC (d9 n ts),sC (.tup (r.map D.int)),sC (.str k),sC (jL R ts.length),none]=some (.nx [sC (d9 n ts),sC (.tup (r.map D.int)),sC (.str k),sC (jL R ts.length),sC (jI P)]) ->
   Y8 [d9 n ts,.tup (r.map D.int),.str k]=some (.tup ((((Aa ts.length).map λi=>(P.lookup i).getD 0).map λp=>(oH ((Aa ts.length).map λi=>(P.lookup i).getD 0)).idxOf p).map x5)):=λK P hP e=>by
  show lM (HU [sC (d9 n ts),sC (.tup (r.map D.int)),sC (.str k),none,none])=_;have en:=WP (vs:=(Aa ts.length).map λi=>(P.lookup i).getD 0) (by rw[A3,At];omega)
  have ec:Q5 [none,some 4] (kF (kE (b9 (y3 3)))) (u4 0) lH (pH (y3 1) (y3 0)) [sC (d9 n ts),sC (.tup (r.map D.int)),sC (.str k),sC (jL R ts.length),sC (jI P)]=some (((Aa ts.length).map λi=>(P.lookup i).getD 0).map x5):=by
   have e0:kF (kE (b9 (y3 3))) [sC (d9 n ts),sC (.tup (r.map D.int)),sC (.str k),sC (jL R ts.length),sC (jI P)]=some ((Aa ts.length).map x5):=AL ((p7 (ds:=(Aa ts.length).map λi=>D.lst ((R i).map x5)) rfl).trans (by rw[A3,At])) ⋯;refine(nM e0 (by rw[A3,At];unfold f8;omega)).trans ?_
   refine(vG (λY=>∃c,Y=[c,sC (jI P)]) (λd=>match d with|.int x=>x5 ((P.lookup x.toNat).getD 0)|_=>.non) _ _ ⟨none,rfl⟩ ?_).trans ?_
   .rintro d hd Y ⟨c,rfl⟩;obtain⟨i,hi,rfl⟩:=Aq.mp hd;refine⟨_,rfl,⟨_,rfl⟩,?_⟩;show lD (jH P) (jU P) (Cf (i:Int))=some (x5 ((P.lookup (i:Int).toNat).getD 0))
    have hs:(P.lookup i).isSome=true:=by rw[wU,Y1 ((hP.mem i).mpr (Am.mp hi))]
    obtain⟨v,hv⟩:=Ds.mp hs;rw[wG,Av,hv];rfl
   .rw[B2,B2];refine lE some (B6 λi _=>?_);show x5 ((P.lookup (i:Int).toNat).getD 0)=_;rw[Av];rfl
  have fin:HU [sC (d9 n ts),sC (.tup (r.map D.int)),sC (.str k),none,none]=some (.rt (.tup ((((Aa ts.length).map λi=>(P.lookup i).getD 0).map λp=>(oH ((Aa ts.length).map λi=>(P.lookup i).getD 0)).idxOf p).map x5))):=by refine v9 (Q8 (d:=jL R ts.length) ((v8 (ds:=[d9 n ts,.tup (r.map D.int),.str k]) rfl).trans er)) ?_;refine v9 e ?_;exact lU ((v8 (ds:=[.lst (((Aa ts.length).map λi=>(P.lookup i).getD 0).map x5)]) (u7 (oE ec) rfl)).trans en)
  rw[fin];rfl
 have t0:u0 (d2 lY (y3 2) (dC (.str "queue"))) [sC (d9 n ts),sC (.tup (r.map D.int)),sC (.str k),sC (jL R ts.length),none]=some (k=="queue"):=W5 rfl;rcases hk with⟨rfl,rfl⟩|⟨rfl,rfl⟩
 .obtain⟨ds,F,eF,aF,hF⟩:=WO h;have hFl:=W1 F (Aa ts.length) hF.nd λx hx=>Am.mpr (hF.lt x hx);rw[At]at hFl;obtain⟨K,P,e,hP⟩:=Ω hg (λt _=>aB t) hm hFl (NZ hF);refine⟨_,K,av K P hP ?_,Ss hP⟩;refine(mI t0).trans ?_;rw[show (("pile":Ba)=="queue")=false by decide +kernel,y8 ∅];exact(Q8 (d:=jI P) ((v8 (ds:=[jL R ts.length,x5 F.length]) (u7 rfl (u7 ((p7 (ds:=ds) (rZ ((v8 (ds:=[d9 n ts,.tup (r.map D.int),.str "pile"]) rfl).trans eF))).trans (by rw[aF];rfl)) rfl))).trans e)).trans rfl
 .obtain⟨K,P,e,hP⟩:=Zj h hg;refine⟨_,K,av K P hP ?_,Ss hP⟩;refine(mI t0).trans ?_;rw[show (("queue":Ba)=="queue")=true by decide +kernel,y6 rfl];exact(Q8 (d:=jI P) ((v8 (ds:=[d9 n ts,.tup (r.map D.int),jL R ts.length]) rfl).trans e)).trans rfl
end
def jC(ts:List d3)(r:List Int)(w:Ba)(K:Nat):Prop:=∃c,GJ (jG r ts w) ts.length c K
def oB(r:List Int)(w:Ba)(s t:d3):Bool:=mF (kC r s) (kC r t)==w
def FD{ts:List d3}{i j:Nat}(hi:i<ts.length)(hj:j<ts.length):jG r ts w i j=oB r w ts[i] ts[j]:=by unfold jG oB;rw[AM (A4 hi),AM (A4 hj)]
def jC.mono{K K':Nat}(h:jC ts r w K)(hk:K<=K'):jC ts r w K':=let ⟨c,hc⟩:=h;⟨c,λi hi=>B3 (hc.lt i hi) hk,hc.ne⟩
def jC.map{eZ gF:List d3}{R:d3->d3->Prop}(f:∀s∈eZ,∃t∈gF,R s t)(hR:∀s t s' t',s∈eZ->s'∈eZ->t∈gF->t'∈gF->R s t->R s' t'->oB r1 w s s'=true->oB r2 w t t'=true)(h:jC gF r2 w K):jC eZ r1 w K:=by
 obtain⟨c,hc⟩:=h
 have g:∀i,∃j,∀hi:i<eZ.length,∃hj:j<gF.length,R eZ[i] gF[j]:=λi=>by
  by_cases hi:i<eZ.length
  .obtain⟨t,ht,hr⟩:=f eZ[i] (Bv hi);obtain⟨j,hj,rfl⟩:=E8 ht;exact⟨j,λ_=>⟨hj,hr⟩⟩
  .exact⟨0,λz=>u3 z hi⟩
 refine⟨λi=>c (Classical.choose (g i)),λi hi=>?_,λi j hi hj e=>?_⟩
 .obtain⟨hj,_⟩:=Jq (g i) hi;exact hc.lt _ hj
 .obtain⟨h1,r1'⟩:=Jq (g i) hi;obtain⟨h2,r2'⟩:=Jq (g j) hj;rw[FD hi hj]at e;refine hc.ne _ _ h1 h2 ?_;rw[FD h1 h2];exact hR _ _ _ _ (Bv hi) (Bv hj) (Bv h1) (Bv h2) r1' r2' e
def jC.all(hk:KW k w):jC ts r w ts.length:=
 ⟨id,λ_ h=>h,λi j _ _ e z=>by rw[show j=i from z.symm,EV hk]at e;cases e⟩
def rp(a b:Int):d3:=(Mw a b,max a b)
def RS(a b:Int):rp a b=rp b a:=by unfold rp;rw[Int.min_comm,Int.max_comm]
def Tk(r:List Int)(a b:Int):kC r (rp a b)=rp (kH r a) (kH r b):=by
 unfold kC rp;rcases Ku a b with h|h
 .rw[Ef h,Ej h]
 .rw[Ei h,F6 h,Int.min_comm,Int.max_comm]
def rB(r:List Int)(t:d3):kC r t=rp (kH r t.1) (kH r t.2):=rfl
structure kJ(n:Int)(r:List Int):Prop where
 nd:r.Nodup
 len:(r.length:Int)=n
 mem:∀p,p∈r↔0<=p/\p<n
structure nH(n:Int)(ts:List d3):Prop where
 up:ts.Pairwise jM
 ok:∀t∈ts,0<=t.1/\t.1<t.2/\t.2<n
def nH.in(W:nH n ts)(h:kJ n r){t:d3}(ht:t∈ts):t.1∈r/\t.2∈r/\t.1≠t.2:=by
 have:=W.ok t ht
 exact⟨(h.mem _).mpr ⋯,(h.mem _).mpr ⋯,⋯⟩
def nH.lay(W:nH n ts)(h:kJ n r)(h6:n<=6)(h12:ts.length<=12):lA n ts r:=⟨W.up,W.ok,h.nd,h.len,λt ht=>⟨(W.in h ht).1,(W.in h ht).2.1⟩,h6,h12⟩
def T6(hk:KW k w):(AO x==w)=(if k = "pile" then decide (x=2) else decide (3<=x)):=by
 rcases hk with⟨rfl,rfl⟩|⟨rfl,rfl⟩
 .match x with
  | 0=>decide +kernel
  | 1=>decide +kernel
  | 2=>decide +kernel
  |n+3=>
   rw[y6 rfl,W4 ⋯];show (("within":Ba)=="cross")=false
   decide +kernel
 .match x with
  | 0=>decide +kernel
  | 1=>decide +kernel
  | 2=>decide +kernel
  |n+3=>
   rw[y8 ‹_›,Y1 ⋯];show (("within":Ba)=="within")=true
   decide +kernel
def ä:∀n:Fin 7,∀a b c d:Fin 6,a≠b->c≠d->a.val<n.val->b.val<n.val->c.val<n.val->d.val<n.val->(yH (rp a.val b.val) (rp c.val d.val)=2↔yH (rp (if a.val=0 then n.val-1 else a.val-1:Nat) (if b.val=0 then n.val-1 else b.val-1:Nat)) (rp (if c.val=0 then n.val-1 else c.val-1:Nat) (if d.val=0 then n.val-1 else d.val-1:Nat))=2):=by decide +kernel
variable{n:Int}{ts:List d3}{r:List Int}{k w:Ba}{K:Nat}
def kJ.lt(h:kJ n r)(h6:n<=6){p:Int}(hp:p∈r):r.idxOf p<6:=by
 have:=B1 hp
 have:=h.len
 omega
def kJ.rot{p:Int}{rest:List Int}(h:kJ n (p::rest)):kJ n (rest++[p]):=
 ⟨(Hq p rest).nodup_iff.mpr h.nd,by rw[<-h.len];simp,λq=>by rw[(Hq p rest).mem_iff];exact h.mem q⟩
def EG{p:Int}{rest:List Int}(hn:(p::rest).Nodup){q:Int}(hq:q∈p::rest):(rest++[p]).idxOf q=if (p::rest).idxOf q=0 then (p::rest).length-1 else (p::rest).idxOf q-1:=by
 rw[By]at hn;rw[Lu];by_cases e:p=q
 .subst e;rw[y8 hn.1,Hr,Hr];simp
 .have ik:q∈rest:=(Ac.mp hq).resolve_left λz=>e z.symm
  have e1:(p::rest).idxOf q=rest.idxOf q+1:=by rw[Gx,beq_eq_false_iff_ne.mpr e];rfl
  rw[y6 ik,e1,y8 (Nat.succ_ne_zero _)];rfl
def jC.rot(W:nH n ts){p:Int}{rest:List Int}(hr:kJ n (p::rest))(h6:n<=6):jC ts (p::rest) "cross" K↔jC ts (rest++[p]) "cross" K:=by
 have av:∀s∈ts,∀t∈ts,oB (p::rest) "cross" s t=oB (rest++[p]) "cross" s t:=λs hs t ht=>by
  obtain⟨m1,m2,ne1⟩:=W.in hr hs;obtain⟨m3,m4,ne2⟩:=W.in hr ht
  have hN:(p::rest).length<7:=by have:=hr.len;omega
  have am:∀{p' q:Int},p'∈p::rest->q∈p::rest->p'≠q->(p::rest).idxOf p'≠(p::rest).idxOf q:=λhp hq h z=>EX hp hq h (by unfold kH;rw[z])
  have ra:=ä ⟨_,hN⟩ ⟨_,hr.lt h6 m1⟩ ⟨_,hr.lt h6 m2⟩ ⟨_,hr.lt h6 m3⟩ ⟨_,hr.lt h6 m4⟩ (λz=>am m1 m2 ne1 (by simpa using z)) (λz=>am m3 m4 ne2 (by simpa using z)) (B1 m1) (B1 m2) (B1 m3) (B1 m4);dsimp only at ra;unfold oB;rw[rB,rB,rB,rB,CA,CA,T6 (.inl ⟨rfl,rfl⟩),T6 (.inl ⟨rfl,rfl⟩),y6 rfl,y6 rfl]
  unfold kH;rw[EG hr.nd m1,EG hr.nd m2,EG hr.nd m3,EG hr.nd m4];exact decide_eq_decide.mpr ra
 constructor
 .exact jC.map (R:=λs t=>s=t) (λs hs=>⟨s,hs,rfl⟩) λs t s' t' hs bz _ _ e1 e2 hc=>by rw[<-e1,<-e2,av s hs s' bz];exact hc
 .exact jC.map (R:=λs t=>s=t) (λs hs=>⟨s,hs,rfl⟩) λs t s' t' hs bz _ _ e1 e2 hc=>by rw[<-e1,<-e2,<-av s hs s' bz];exact hc
def sw(a b x:Int):Int:=if x=a then b else if x=b then a else x
def FM(a b x:Int):sw a b (sw a b x)=x:=by
 unfold sw;by_cases h1:x=a
 .subst h1;by_cases h2:b=x
  .simp[h2]
  .simp[h2]
 .by_cases h2:x=b
  .subst h2;simp
  .simp[h1,h2]
def UN(h:sw a b x=sw a b y):x=y:=by rw[<-FM a b x,h,FM]
theorem Uf(a b:Int)(x:Int):∀r:List Int,(r.map (sw a b)).idxOf (sw a b x)=r.idxOf x
 | []=>rfl
 |y::r=>by
  rw[Ai,Gx,Gx,Uf a b x r];by_cases h:y=x
  .subst h;simp
  .rw[beq_eq_false_iff_ne.mpr (λz=>h (UN z)),beq_eq_false_iff_ne.mpr h]
def Vo(a b:Int)(x:Int)(r:List Int):kH (r.map (sw a b)) x=kH r (sw a b x):=by
 unfold kH
 have:=Uf a b (sw a b x) r
 rw[FM]at this;rw[this]
def kJ.sw{a b:Int}(h:kJ n r)(ha:a∈r)(hb:b∈r):kJ n (r.map (sw a b)):=by
 refine⟨Bu.mpr (h.nd.imp λam z=>am (UN z)),by rw[A3];exact h.len,λp=>?_⟩
 rw[<-h.mem,Aq]
 have cl:∀q,q∈r->P.sw a b q∈r:=λq hq=>by
  unfold P.sw;split
  .exact hb
  .split
   .exact ha
   .exact hq
 constructor
 .rintro ⟨q,hq,rfl⟩;exact cl q hq
 .exact λhp=>⟨P.sw a b p,cl p hp,FM a b p⟩
def BR(ts:List d3)(f:Int->Int):Prop:=∀t∈ts,rp (f t.1) (f t.2)∈ts
def BR.comp(hf:BR ts f)(hg:BR ts g):BR ts λx=>f (g x):=λt ht=>by
 have h:=hf _ (hg t ht);rcases Ku (g t.1) (g t.2) with z|z
 .rw[show rp (g t.1) (g t.2)=(g t.1,g t.2) by unfold rp;rw[Ef z,Ej z]]at h
  exact h
 .rw[show rp (g t.1) (g t.2)=(g t.2,g t.1) by unfold rp;rw[Ei z,F6 z]]at h
  rw[RS];exact h
def jC.sw(ha:BR ts (sw a b))(h:jC ts r w K):jC ts (r.map (sw a b)) w K:=by
 have av:∀t:d3,kC (r.map (P.sw a b)) t=kC r (rp (P.sw a b t.1) (P.sw a b t.2)):=λt=>by rw[Tk,rB,Vo,Vo]
 refine jC.map (R:=λs t=>t=rp (P.sw a b s.1) (P.sw a b s.2)) (λs hs=>⟨_,ha s hs,rfl⟩) (λs t s' t' hs bz _ _ e1 e2 hc=>?_) h;unfold oB at hc ⊢;rw[av,av]at hc;rw[e1,e2];exact hc
variable{n:Int}{ts:List d3}{r beg:List Int}{k w:Ba}{K:Nat}
theorem JP{α:Type}[DecidableEq α]:∀xs:List α,(l4 xs).length<=xs.length
 | []=>Ad _
 |x::xs=>by
  unfold l4;split
  .exact Nat.le_succ_of_le (JP xs)
  .exact Ma (JP xs)
theorem Qr:∀ts:List d3,wI (ts.map j8)=some ts
 | []=>rfl
 |t::ts=>by rw[Ai];show (wI (ts.map j8)).map _=_;rw[Qr ts];rfl
def Ē{s:d3}(h:0<=s.1/\s.1<=6/\0<=s.2/\s.2<=6):s∈l8:=by unfold l8;refine Mj.mpr ⟨s.1.toNat,Am.mpr ⋯,Aq.mpr ⟨s.2.toNat,Am.mpr ⋯,?_⟩⟩;rw[Ib h.1,Ib h.2.2.1]
variable{n:Int}{ts:List d3}{r beg:List Int}{k w:Ba}{K:Nat}
def ż{fa:EL}{xs:List d3}(h:fa Y=some (xs.map j8))(h1:∀s∈xs,s∈l8)(h2:xs.length<=17):vE fa Y=some ((mO (l4 xs)).map j8):=by unfold vE;rw[h];right;rw[Qr];right;rw[y6 ⟨h1,h2⟩];show lO ((l4 xs).map j8)=_;exact DH (Im (JP _) ⋯)
def Se(h:lA n ts r)(hm:ts.length<=11)(hk:KW k w):∃(f:List Nat) (K:Nat),Y8 [d9 n ts,.tup (r.map D.int),.str k]=some (.tup (f.map x5))/\Q0 [.tup (f.map x5)]=some (x5 K)/\∀K',jC ts r w K'↔K<=K':=by
 obtain⟨f,K,ef,hf⟩:=ģ h hm hk;have hpc:=HZ (vs:=f) (by rw[hf.len];omega) (.inr rfl)
 rw[Ra hf.use]at hpc;exact⟨f,K,ef,hpc,λK'=>⟨λ⟨c,hc⟩=>hf.least c K' hc,λhle=>(jC.mono ⟨_,hf.col⟩ hle)⟩⟩
variable{n:Int}{ts:List d3}{r:List Int}{k w:Ba}{K N:Nat}
def Κ:∀n:Fin 7,∀a b c d:Fin 6,a≠b->c≠d->a.val<n.val->b.val<n.val->c.val<n.val->d.val<n.val->yH (rp a.val b.val) (rp c.val d.val)=yH (rp (n.val-1-a.val:Nat) (n.val-1-b.val:Nat)) (rp (n.val-1-c.val:Nat) (n.val-1-d.val:Nat)):=by decide +kernel
def EF(hn:r.Nodup){p:Int}(hp:p∈r):r.reverse.idxOf p=r.length-1-r.idxOf p:=by
 have hi:=B1 hp
 have h2:r.length-1-r.idxOf p<r.reverse.length:=by rw[Gb];omega
 have e:r.reverse[r.length-1-r.idxOf p]=p:=by
  rw[List.getElem_reverse]
  have:r.length-1-(r.length-1-r.idxOf p)=r.idxOf p:=by omega
  simp only[this];exact Gr hi
 have:=((List.reverse_perm _).nodup_iff.mpr hn).idxOf_getElem _ h2
 rw[e]at this;exact this
def kJ.rev(h:kJ n r):kJ n r.reverse:=⟨(List.reverse_perm _).nodup_iff.mpr h.nd,by rw[Gb];exact h.len,λp=>by rw[List.mem_reverse];exact h.mem p⟩
def ŷ(W:nH n ts)(hr:kJ n r)(h6:n<=6){s t:d3}(hs:s∈ts)(ht:t∈ts):oB r.reverse w s t=oB r w s t:=by
 obtain⟨m1,m2,ne1⟩:=W.in hr hs;obtain⟨m3,m4,ne2⟩:=W.in hr ht
 have hN:r.length<7:=by have:=hr.len;omega
 have am:∀{p q:Int},p∈r->q∈r->p≠q->r.idxOf p≠r.idxOf q:=λhp hq h z=>EX hp hq h (by unfold kH;rw[z])
 have ta:=Κ ⟨_,hN⟩ ⟨_,hr.lt h6 m1⟩ ⟨_,hr.lt h6 m2⟩ ⟨_,hr.lt h6 m3⟩ ⟨_,hr.lt h6 m4⟩ (λz=>am m1 m2 ne1 (by simpa using z)) (λz=>am m3 m4 ne2 (by simpa using z)) (B1 m1) (B1 m2) (B1 m3) (B1 m4);dsimp only at ta;unfold oB;rw[rB,rB,rB,rB,CA,CA];unfold kH;rw[EF hr.nd m1,EF hr.nd m2,EF hr.nd m3,EF hr.nd m4,<-ta]
def jC.same(h:∀s∈ts,∀t∈ts,oB r' w s t=oB r w s t):jC ts r w K↔jC ts r' w K:=by
 constructor
 .exact jC.map (R:=λs t=>s=t) (λs hs=>⟨s,hs,rfl⟩) λs t s' t' hs bz _ _ e1 e2 hc=>by rw[<-e1,<-e2,<-h s hs s' bz];exact hc
 .exact jC.map (R:=λs t=>s=t) (λs hs=>⟨s,hs,rfl⟩) λs t s' t' hs bz _ _ e1 e2 hc=>by rw[<-e1,<-e2,h s hs s' bz];exact hc
def jC.rev(W:nH n ts)(hr:kJ n r)(h6:n<=6):jC ts r w K↔jC ts r.reverse w K:=jC.same λs hs t ht=>ŷ W hr h6 hs ht
theorem jC.moved(W:nH N ts)(h6:N<=6):∀(pre post:List Int),kJ N (pre++post)->kJ N (post++pre)/\(jC ts (pre++post) "cross" K↔jC ts (post++pre) "cross" K)
 | [],post,h=>by rw[Cr];exact⟨h,Iff.rfl⟩
 |x::pre,post,h=>by
  have h':kJ N ((pre++post)++[x]):=kJ.rot h
  have e:(pre++post)++[x]=pre++(post++[x]):=by simp
  have e2:(post++[x])++pre=post++x::pre:=by simp
  have f:=jC.rot (K:=K) W h ⋯;rw[e]at h';obtain⟨g1,g2⟩:=jC.moved W h6 pre (post++[x]) h';rw[e2]at g1 g2;exact⟨g1,f.trans (by rw[show (pre.append post)++[x]=pre++(post++[x]) from e];exact g2)⟩
theorem Rq{f:Int->Int}{r:List Int}:(∀a∈r,f a=f p->a=p)->(r.map f).idxOf (f p)=r.idxOf p:=by
 induction r with
 |nil=>exact λ_=>rfl
 |cons y r ih=>
  intro h;rw[Ai,Gx,Gx,ih λa ha=>h a (A7 _ ha)];by_cases e:y=p
  .subst e;simp
  .rw[beq_eq_false_iff_ne.mpr (λz=>e (h y A6 z)),beq_eq_false_iff_ne.mpr e]
def jC.names(W:nH n ts)(hr:kJ n r){f:Int->Int}(hf:∀a∈r,∀b∈r,f a=f b->a=b){cC:List d3}(h:∀s,s∈cC↔∃t∈ts,s=rp (f t.1) (f t.2)):jC ts r w K↔jC cC (r.map f) w K:=by
 have sp:∀t∈ts,kC (r.map f) (rp (f t.1) (f t.2))=kC r t:=λt ht=>by obtain⟨m1,m2,_⟩:=W.in hr ht;rw[Tk,rB];unfold kH;rw[Rq λa ha=>hf a ha _ m1,Rq λa ha=>hf a ha _ m2]
 constructor
 .refine jC.map (R:=λs t=>s=rp (f t.1) (f t.2)) (λs hs=>(h s).mp hs) λs t s' t' _ _ ht gN e1 e2 hc=>?_;unfold oB at hc ⊢;rw[e1,e2,sp t ht,sp t' gN]at hc;exact hc
 .refine jC.map (R:=λt s=>s=rp (f t.1) (f t.2)) (λt ht=>⟨_,(h _).mpr ⟨t,ht,rfl⟩,rfl⟩) λt s t' s' ht gN _ _ e1 e2 hc=>?_;unfold oB at hc ⊢;rw[e1,e2,sp t ht,sp t' gN];exact hc
def jC.less{cC:List d3}(h:∀s∈cC,s∈ts)(hf:jC ts r w K):jC cC r w K:=jC.map (R:=λs t=>s=t) (λs hs=>⟨s,h s hs,rfl⟩) (λs t s' t' _ _ _ _ e1 e2 hc=>by rw[<-e1,<-e2];exact hc) hf
def jC.more(hk:KW k w)(hf:jC (ts.eraseIdx i) r w K):jC ts r w (K+1):=by
 obtain⟨c,hc⟩:=hf;by_cases hi:i<ts.length
 .have hl:(ts.eraseIdx i).length=ts.length-1:=by rw[List.length_eraseIdx,y6 hi]
  let g:Nat->Nat:=λj=>if j<i then j else j-1
  have at_:∀j,j<ts.length->j≠i->∃h:g j<(ts.eraseIdx i).length,∃h2:j<ts.length,(ts.eraseIdx i)[g j]=ts[j]:=λj hj am=>by
   have hg:g j<(ts.eraseIdx i).length:=by
    rw[hl];show (if j<i then j else j-1)<_
    split<;>omega
   refine⟨hg,hj,?_⟩;rw[List.getElem_eraseIdx];by_cases z:j<i
   .have e:g j=j:=y6 z;simp only[e,z,dite_true]
   .have e:g j=j-1:=y8 z
    have z2:¬j-1<i:=by omega
    have e3:j-1+1=j:=by omega
    simp only[e,z2,dite_false,e3]
  refine⟨λj=>if j=i then K else c (g j),λj hj=>?_,λa b ha hb e=>?_⟩
  .show (if j=i then K else c (g j))<K+1;split
   .omega
   .rename_i am;obtain⟨h1,_,_⟩:=at_ j hj am
    have:=hc.lt _ h1
    omega
  .show (if a=i then K else c (g a))≠(if b=i then K else c (g b));by_cases ea:a=i
   .by_cases eb:b=i
    .rw[ea,eb,EV hk]at e;cases e
    .obtain⟨h1,_,_⟩:=at_ b hb eb
     have:=hc.lt _ h1
     rw[y6 ea,y8 eb];omega
   .obtain⟨h1,cJ,q1⟩:=at_ a ha ea;by_cases eb:b=i
    .have:=hc.lt _ h1
     rw[y8 ea,y6 eb];omega
    .obtain⟨h2,bh,q2⟩:=at_ b hb eb;rw[y8 ea,y8 eb];refine hc.ne _ _ h1 h2 ?_;rw[FD h1 h2,q1,q2];rw[FD ha hb]at e;exact e
 .rw[List.eraseIdx_of_length_le ⋯]at hc;exact jC.mono ⟨c,hc⟩ (E9 _)
variable{n:Int}{ts:List d3}{r:List Int}{k w:Ba}{K N:Nat}
def JE{α:Type}(ds:List α)(j:Nat):rV ds none (some (j:Int))=ds.take j:=by
 have e0:HT.sIx ds.length 0 none=0:=rfl
 have e1:HT.sIx ds.length ds.length (some (j:Int))=Mw j ds.length:=by exact HT.sIx_nat _ _ _
 unfold rV;rw[e0,e1,List.drop_zero,Nat.sub_zero];rcases Nat.le_total j ds.length with z|z
 .rw[Mt z]
 .rw[Nat.min_eq_right z,Jw,Jf z]
def Sl{α:Type}(ds:List α)(j:Nat):rV ds (some (j:Int)) none=ds.drop j:=by
 have e0:HT.sIx ds.length ds.length none=ds.length:=rfl
 have e1:HT.sIx ds.length 0 (some (j:Int))=Mw j ds.length:=by exact HT.sIx_nat _ _ _
 unfold rV;rw[e0,e1];rcases Nat.le_total j ds.length with z|z
 .rw[Mt z,Jf (by rw[Ff];omega)]
 .rw[Nat.min_eq_right z,O5,L9,List.drop_of_length_le z]
def UK{fa:ED}{fo fh:J5->Option (Option Int)}{lo hi:Option Int}(h:fa Y=some (.tup ds))(h1:fo Y=some lo)(h2:fh Y=some hi):nN (l5 fa fo fh) (vW fa fo fh) Y=some (.tup (rV ds lo hi)):=by
 unfold nN l5 vW;rw[h];right;rw[h1];right;rw[h2];dsimp only[GB];by_cases z:HT.sIx ds.length 0 lo=0/\HT.sIx ds.length ds.length hi=ds.length
 .rw[y6 z,y6 z];unfold rV;rw[z.1,z.2,List.drop_zero,Nat.sub_zero,Jw]
 .rw[y8 z]
def MQ(xs ys:List D)(h:xs.length+ys.length<=f8):jE (.tup xs) (.tup ys)=some (.tup (xs++ys)):=by show (if xs.length+ys.length<=f8 then some (D.tup (xs++ys)) else none)=_;rw[y6 h]
def jR(r:List Int):D:=.tup (r.map D.int)
def Zi(c:Int)(h0:0<r.length)(hl:r.length<=1000):∃j:Nat,(j:Int)=c % (r.length:Int)/\LC [jR r,.int c]=some (jR (r.drop j++r.take j)):=by
 obtain⟨j,hj⟩:=Dh (Int.emod_nonneg c (show (r.length:Int)≠0 by omega));refine⟨j,hj.symm,?_⟩;show lM (IG [sC (jR r),sC (.int c),none])=_
 have e0:d2 oX (y3 1) (kE (b9 (y3 0))) [sC (jR r),sC (.int c),none]=some (.int (j:Int)):=by refine(kP (x:=.int c) (y:=.int (r.length:Int)) rfl ((p7 (ds:=r.map D.int) rfl).trans (by rw[A3]))).trans ?_;rw[zX c ⋯,hj]
 have fin:IG [sC (jR r),sC (.int c),none]=some (.rt (jR (r.drop j++r.take j))):=by
  refine v9 (Q8 e0) (lU ((kP (x:=.tup ((r.map D.int).drop j)) (y:=.tup ((r.map D.int).take j)) ?_ ?_).trans ?_))
  .rw[<-Sl];exact UK rfl rfl rfl
  .rw[<-JE];exact UK rfl rfl rfl
  .refine(MQ _ _ (by simp[f8];omega)).trans ?_
   rw[<-List.map_drop,<-Nm,<-B9];rfl
 rw[fin];rfl
def QE:BS [jR r]=some (jR r.reverse):=by show some (D.tup (r.map D.int).reverse)=_;rw[<-List.map_reverse];rfl
def Sk{h:D->J5->Option J5}{ft:EB}{fe:ED}{Y Y1:J5}{d y:D}{ds ys:List D}(h1:h d Y=some Y1)(h2:ft Y1=some true)(h3:fe Y1=some y)(h4:nB h ft fe Y1 ds=some ys):nB h ft fe Y (d::ds)=some (y::ys):=by unfold nB;rw[h1];right;rw[h2];right;rw[h3];right;rw[h4]
def Rb{h:D->J5->Option J5}{ft:EB}{Y Y1:J5}{ds:List D}(h1:h d Y=some Y1)(h2:ft Y1=some false):nB h ft fe Y (d::ds)=nB h ft fe Y1 ds:=by rw[nB,h1];right;rw[h2]
def uE(ts:List d3)(r:List Int)(a b:Nat):Prop:=(∀K,jC ts r "cross" K↔a<=K)/\∀K,jC ts r "within" K↔b<=K
def nT(a b:Nat):D:=.lst [x5 a,x5 b]
def zE(h:lA n ts r)(hm:ts.length<=11):∃a b,sG [d9 n ts,jR r]=some (nT a b)/\uE ts r a b:=by
 obtain⟨f,a,e1,e2,e3⟩:=Se h hm (k:="pile") (w:="cross") (.inl ⟨rfl,rfl⟩);obtain⟨f',b,e1',cq,e3'⟩:=Se h hm (k:="queue") (w:="within") (.inr ⟨rfl,rfl⟩);refine⟨a,b,?_,e3,e3'⟩;show lM (GQ [sC (d9 n ts),sC (jR r)])=_
 have go:∀(kd:Ba) (f:List Nat) (a:Nat),Y8 [d9 n ts,jR r,.str kd]=some (.tup (f.map x5))->Q0 [.tup (f.map x5)]=some (x5 a)->x8 Q0 (z9 (x8 Y8 (lK 1 2 0)) Q7) [sC (.str kd),sC (d9 n ts),sC (jR r)]=some (x5 a):=λkd f a h1 h2=>(v8 (ds:=[.tup (f.map x5)]) (u7 ((v8 (ds:=[d9 n ts,jR r,.str kd]) rfl).trans h1) rfl)).trans h2
 have fin:GQ [sC (d9 n ts),sC (jR r)]=some (.rt (nT a b)):=by refine lU (oE ((nM (ds:=[.str "pile",.str "queue"]) (rZ (nV (ds:=[.str "pile",.str "queue"]) rfl (show 2<=f8 by decide))) (show 2<=f8 by decide)).trans ?_));exact Sk rfl rfl (go "pile" f a e1 e2) (Sk rfl rfl (go "queue" f' b e1' cq) rfl)
 rw[fin];rfl
variable{n:Int}{ts us:List d3}{r al:List Int}{k w:Ba}{K N:Nat}
def nm(al:List Int)(p:Int):Int:=al.getD p.toNat 0
def AU{j:Nat}(h:j<al.length):nm al (j:Int)=al[j]:=by unfold nm;rw[Av,Cv,A4 h];rfl
def EU{j:Nat}(h:j<al.length):lL (al.map D.int) (j:Int)=some (.int al[j]):=by
 unfold lL;rw[wD (by rw[A3];exact h)]
 show (al.map D.int)[j]?=_;rw[Ao,A4 h];rfl
def LO{p:Int}(h0:0<=p)(h1:p<al.length):lL (al.map D.int) p=some (.int (nm al p)):=by obtain⟨j,rfl⟩:=Dh h0;rw[EU ⋯,AU ⋯]
def xG(hn:al.Nodup){p q:Int}(hp:0<=p/\p<al.length)(hq:0<=q/\q<al.length)(h:nm al p=nm al q):p=q:=by
 obtain⟨i,rfl⟩:=Dh hp.1;obtain⟨j,rfl⟩:=Dh hq.1
 have hi:i<al.length:=by omega
 have hj:j<al.length:=by omega
 rw[AU hi,AU hj]at h;have a:=hn.idxOf_getElem _ hi;rw[h,hn.idxOf_getElem _ hj]at a;rw[a]
def v01:(kB 0 al.length).map (nm al)=al:=Hv (by rw[A3,Tl]) λi h1 h2=>by rw[Jt];unfold kB;rw[Jt,List.getElem_range,Mr,AU h2]
def Tn:(kB 0 N).Nodup:=by unfold kB;exact Bu.mpr (D2.imp λ{a b} h z=>h ⋯)
def UR{p:Int}:p∈kB 0 N↔0<=p/\p<(N:Int):=by
 unfold kB;rw[Aq];constructor
 .rintro ⟨k,hk,rfl⟩
  have:=Am.mp hk
  omega
 .exact λh=>⟨p.toNat,Am.mpr ⋯,⋯⟩
def kJ.perm(hr:kJ N r):r.Perm (kB 0 N):=CD hr.nd Tn λa=>by rw[hr.mem,UR]
def kJ.of(h:r.Perm (kB 0 N)):kJ N r:=⟨h.nodup_iff.mpr Tn,by rw[h.length_eq,Tl],λp=>by rw[h.mem_iff,UR]⟩
def kJ.names(hr:kJ N r)(hn:kJ N al):kJ N (r.map (nm al)):=kJ.of <| by
 have:=hr.perm.map (nm al)
 have hl:al.length=N:=by have:=hn.len;omega
 rw[<-hl,v01]at this;exact this.trans hn.perm
def nQ(al:List Int)(ts:List d3):List d3:=ts.map λt=>rp (nm al t.1) (nm al t.2)
def Š(h:rp a b=rp c d):a=c/\b=d\/a=d/\b=c:=Vp (lE Bo h) (lE Mk h)
def â(W:nH N ts)(hn:kJ N al):nH N (mO (nQ al ts)):=by
 have hl:(al.length:Int)=N:=hn.len;refine⟨CK _ (Bu.mpr (W.up.imp_of_mem λ{s t} hs ht q e=>?_)),λt ht=>?_⟩
 .have h1:=W.ok s hs;have h2:=W.ok t ht;rcases Š e with⟨z1,z2⟩|⟨z1,z2⟩
  .have e1:=xG hn.nd ⋯ ⋯ z1;have e2:=xG hn.nd ⋯ ⋯ z2;unfold jM at q;omega
  .have e1:=xG hn.nd ⋯ ⋯ z1;have e2:=xG hn.nd ⋯ ⋯ z2;omega
 .obtain⟨s,hs,rfl⟩:=Aq.mp ((rD _).mem_iff.mp ht);have h1:=W.ok s hs
  have ne:nm al s.1≠nm al s.2:=λz=>by
   have:=xG hn.nd ⋯ ⋯ z
   omega
  have hm:∀p:Int,0<=p->p<N->0<=nm al p/\nm al p<N:=λp h0 h1=>by obtain⟨j,rfl⟩:=Dh h0;rw[AU ⋯];exact(hn.mem _).mp (Bv _)
  have a1:=hm s.1 ⋯ ⋯;have a2:=hm s.2 ⋯ ⋯;show 0<=Mw _ _/\Mw _ _<max _ _/\max _ _<_;omega
def Tc(W:nH N ts)(hn:kJ N al)(hl:ts.length<=12){fi:EL}{fe:ED}(h0:fi Y=some (ts.map j8))(hc:mD cap Y=[none,none,sC (jR al)])(h:∀(t:d3) (x y:Int),lL (al.map D.int) t.1=some (.int x)->lL (al.map D.int) t.2=some (.int y)->fe [sC (.int t.1),sC (.int t.2),sC (jR al)]=some (j8 (rp x y))):
  Q5 cap fi (nK 2 (Z9 (u4 0) (Z9 (u4 1) (nJ)))) lH fe Y=some ((nQ al ts).map j8):=by
 have hN:(al.length:Int)=N:=hn.len;refine(nM h0 (by rw[A3];unfold f8;omega)).trans ?_
 rw[hc];refine(vG (λY=>∃c d,Y=[c,d,sC (jR al)]) (λd=>match d with|.tup [.int a,.int b]=>j8 (rp (nm al a) (nm al b))|_=>.non) _ _ ⟨none,none,rfl⟩ ?_).trans ?_
 .rintro d hd Y ⟨c,c',rfl⟩;obtain⟨t,ht,rfl⟩:=Aq.mp hd;have h1:=W.ok t ht;exact⟨[sC (.int t.1),sC (.int t.2),sC (jR al)],rfl,⟨_,_,rfl⟩,h t _ _ (LO ⋯ ⋯) (LO ⋯ ⋯)⟩
 .unfold nQ;rw[B2,B2];rfl
def EM:(nQ al ts).length=ts.length:=A3 _
def Wd(W:nH N ts)(hn:kJ N al)(hl:ts.length<=12):JU [d9 N ts,jR al]=some (d9 N (mO (nQ al ts))):=by
 have ec:Q5 [none,none,some 1] (b9 (jF 0 1)) (nK 2 (Z9 (u4 0) (Z9 (u4 1) (nJ)))) lH (x8 Y7 (z9 (i3 (b9 (y3 2)) (y3 0)) (z9 (i3 (b9 (y3 2)) (y3 1)) Q7))) [sC (d9 N ts),sC (jR al)]=some ((nQ al ts).map j8):=Tc W hn hl rfl rfl λt x y h1 h2=>(v8 (ds:=[.int x,.int y]) (u7 ((lN (ds:=al.map D.int) (j:=t.1) rfl rfl).trans h1) (u7 ((lN (ds:=al.map D.int) (j:=t.2) rfl rfl).trans h2) rfl))).trans (IC _ _)
 exact nP (x:=Pr [sC (d9 N ts),sC (jR al)]) (
  lU (nV (ds:=[.int N,.tup ((mO (nQ al ts)).map j8)]) (u7 rfl (u7 (qV ((xS ec).trans (DH (by rw[EM];omega)))) rfl)) (show 2<=f8 by decide)))
def v1B(x y:Int):lO [.int x,.int y]=some [.int (Mw x y),.int (max x y)]:=by
 show some ((if decide (x<=y)=true then [x,y] else [y,x]).map D.int)=_;by_cases h:x<=y
 .rw[y6 (Y1 h),Ef h,Ej h];rfl
 .rw[y8 (by rw[W4 h];exact Ay),Ei ⋯,F6 ⋯]
  rfl
def RA{fa fb:ED}(ha:fa Y=some (.tup (ts.map j8)))(hb:fb Y=some (x5 j))(hj:j<ts.length)(hl:ts.length<=12):d2 jE (l5 fa nE (mH fb)) (l5 fa (mH (d2 jE fb (dI 1))) nE) Y=some (.tup ((ts.eraseIdx j).map j8)):=by
 have ab:(ts.map j8).length=ts.length:=A3 _
 have e1:l5 fa nE (mH fb) Y=some (.tup ((ts.map j8).take j)):=by refine(T8 (lo:=none) (hi:=some (j:Int)) ha rfl (Rj hb)).trans ?_;show (if _ then none else _)=_;rw[y8,JE];rintro ⟨_,z⟩;rw[HT.sIx_nat]at z;omega
 have e2:l5 fa (mH (d2 jE fb (dI 1))) nE Y=some (.tup ((ts.map j8).drop (j+1))):=by refine(T8 (lo:=some ((j+1:Nat):Int)) (hi:=none) ha (Rj ((kP (y:=.int 1) hb rfl).trans rfl)) rfl).trans ?_;show (if _ then none else _)=_;rw[y8,Sl];rintro ⟨z,_⟩;rw[HT.sIx_nat]at z;omega
 refine(kP e1 e2).trans ((MQ _ _ (by rw[Eg,Ff];unfold f8;omega)).trans ?_)
 rw[<-List.eraseIdx_eq_take_drop_succ,KC]
def Wf{j:Nat}(hj:j<ts.length)(hl:ts.length<=12):DT [d9 n ts,x5 j]=some (d9 n (ts.eraseIdx j)):=by
 exact nP (x:=OK [sC (d9 n ts),sC (x5 j)]) (
  lU (nV (ds:=[.int n,.tup ((ts.eraseIdx j).map j8)]) (u7 rfl (u7 (RA rfl rfl hj hl) rfl)) (show 2<=f8 by decide)))
def OX(W:nH n ts)(h6:n<=6)(hl:us.length<=12)(h:∀s,s∈us++[rp a b]↔s∈ts):wV [d9 n us,.int a,.int b]=some (d9 n ts):=by
 have e1:d2 jE (jF 0 1) (jP (z9 (x8 Y7 (jQ 1 2)) Q7)) [sC (d9 n us),sC (.int a),sC (.int b)]=some (.tup ((us++[rp a b]).map j8)):=by
  refine(kP (x:=.tup (us.map j8)) (y:=.tup [j8 (rp a b)]) rfl (nV (ds:=[j8 (rp a b)]) (u7 ((v8 (ds:=[.int a,.int b]) rfl).trans (IC a b)) rfl) (show 1<=f8 by decide))).trans ((MQ _ _ (by simp[f8];omega)).trans ?_)
  rw[B9];rfl
 have es:mO (l4 (us++[rp a b]))=ts:=GX (CK _ (wX _)) W.up λt=>by rw[(rD _).mem_iff,t8];exact h t
 have e2:vE (b9 (d2 jE (jF 0 1) (jP (z9 (x8 Y7 (jQ 1 2)) Q7)))) [sC (d9 n us),sC (.int a),sC (.int b)]=some (ts.map j8):=by rw[ż (rZ e1) (λs hs=>Ē (by have:=W.ok s ((h s).mp hs);omega)) (by simp;omega),es]
 exact nP (x:=Qd [sC (d9 n us),sC (.int a),sC (.int b)]) (
  lU (nV (ds:=[.int n,.tup (ts.map j8)]) (u7 rfl (u7 (qV e2) rfl)) (show 2<=f8 by decide)))
variable{n:Int}{ts us:List d3}{r al:List Int}{k w:Ba}{K N a b:Nat}
def Ä(h:depth d<=jY):kZ d d=some (.bl false):=by unfold kZ;rw[y6 ⟨h,h⟩,BU];rfl
def P8(r:List Int):depth (.lst (r.map D.int))<=jY/\depth (jR r)<=jY:=by unfold jR;rw[depth,depth,QJ];decide
def CQ:depth (d9 n ts)<=jY:=by
 have:=HC ts
 unfold d9 jY;simp only[depth,lT];omega
def P9:depth (nT a b)<=jY:=by unfold nT x5 jY;simp only[depth,lT];omega
def qX{fa fb:ED}{d:D}(ha:fa Y=some d)(hb:fb Y=some d)(h:depth d<=jY):u0 (d2 kZ fa fb) Y=some false:=W5 ((kP ha hb).trans (Ä h))
def qH{ga:EB}(h:ga Y=some false):jV ga g jZ Y=some (.nx Y):=(mI h).trans rfl
def R0{fl:EL}(h:fl Y=some []):vR fl Y=some false:=by unfold vR;rw[h];rfl
def uE.same(h:uE ts r a b)(h':uE cC r' a' b'):((∀K,jC ts r "cross" K↔jC cC r' "cross" K)->a'=a)/\((∀K,jC ts r "within" K↔jC cC r' "within" K)->b'=b):=
 ⟨λz=>Nat.le_antisymm ((h'.1 _).mp ((z _).mp ((h.1 _).mpr (Ad _)))) ((h.1 _).mp ((z _).mpr ((h'.1 _).mpr (Ad _)))),λz=>Nat.le_antisymm ((h'.2 _).mp ((z _).mp ((h.2 _).mpr (Ad _)))) ((h.2 _).mp ((z _).mpr ((h'.2 _).mpr (Ad _))))⟩
def uE.less(h:uE ts r a b)(h':uE (ts.eraseIdx j) r a' b'):(a'<=a/\a<=a'+1)/\b'<=b/\b<=b'+1:=by have hs:∀s∈ts.eraseIdx j,s∈ts:=λs hs=>(Hc ts j).subset hs;exact⟨⟨(h'.1 _).mp (jC.less hs ((h.1 _).mpr (Ad _))),(h.1 _).mp (jC.more (.inl ⟨rfl,rfl⟩) ((h'.1 _).mpr (Ad _)))⟩,(h'.2 _).mp (jC.less hs ((h.2 _).mpr (Ad _))),(h.2 _).mp (jC.more (.inr ⟨rfl,rfl⟩) ((h'.2 _).mpr (Ad _)))⟩
def IU:EO:=
 (J6 (i4 10 (x8 DT (jQ 0 9)))
 (J6 (yD (i3 (b9 (jF 0 1)) (y3 9)) (nK 2 (Z9 (u4 11) (Z9 (u4 12) (nJ)))))
 (J6 (jV (qL (u0 (d2 kZ (y3 10) (jP (z9 (jF 0 0) (z9 (d2 jE (l5 (jF 0 1) (nE) (mH (y3 9))) (l5 (jF 0 1) (mH (d2 jE (y3 9) (dI 1))) (nE))) Q7))))) (u0 (d2 kZ (x8 wV (lK 10 12 11)) (y3 0))))
 mM
 jZ)
 (J6 (jV (u0 (d2 kZ (x8 wV (lK 0 11 12)) (y3 0)))
 mM
 jZ)
 (jV (vR (Q5 [none,some 5,some 10,some 1] (b9 (jP (z9 (dI 0) (z9 (dI 1) Q7)))) (u4 0) (rJ (u0 (qS rN rN (d2 pJ (i3 (b9 (y3 1)) (y3 0)) (dI 1)) (i3 (b9 (x8 sG (jQ 2 3))) (y3 0)) (i3 (b9 (y3 1)) (y3 0))))) (y3 0)))
 mM
 jZ)))))
def Ė(W:nH N ts)(hr:kJ N r)(h6:N<=6)(h9:ts.length<=9)(hM:uE ts r a b){j:Nat}(hj:j<ts.length){c2 c3 c4 c6 c7 c8 c10 c11 c12:Option Cell}:∃c10' c11' c12',IU [sC (d9 N ts),sC (jR r),c2,c3,c4,sC (nT a b),c6,c7,c8,sC (x5 j),c10,c11,c12]=some (.nx [sC (d9 N ts),sC (jR r),c2,c3,c4,sC (nT a b),c6,c7,c8,sC (x5 j),c10',c11',c12']):=by
 have hl:(ts.eraseIdx j).length<=9:=C7 (Hc ts j).length_le h9;have W':nH N (ts.eraseIdx j):=⟨W.up.sublist (Hc ts j),λt ht=>W.ok t ((Hc ts j).subset ht)⟩;obtain⟨a',b',em,hM'⟩:=zE (W'.lay hr ⋯ ⋯) ⋯;obtain⟨⟨q1,q2⟩,q3,q4⟩:=hM.less hM';have hok:=W.ok _ (Bv hj);generalize et:ts[j]=t at hok
 have hrp:rp t.1 t.2=t:=by unfold rp;rw[Ef ⋯,Ej ⋯]
 have hp:=erase_perm ts j hj;rw[et]at hp
 have aJ:∀s,s∈ts.eraseIdx j++[t]↔s∈ts:=λs=>by rw[<-hp.mem_iff,Az,Ag,Ac];exact Or.comm
 have f1:=OX (us:=ts.eraseIdx j) (a:=t.2) (b:=t.1) W ⋯ ⋯ (by rw[RS,hrp];exact aJ)
 have f2:=OX (us:=ts) (a:=t.1) (b:=t.2) W ⋯ ⋯ (λs=>by
  rw[hrp,Az,Ag]
  exact⟨λz=>z.elim id λe=>by rw[e,<-et];exact Bv hj,.inl⟩)
 have way:∀(i:Int) (x x':Nat),lL [x5 a,x5 b] i=some (x5 x)->lL [x5 a',x5 b'] i=some (x5 x')->x'<=x->x<=x'+1->rJ (u0 (qS rN rN (d2 pJ (i3 (b9 (y3 1)) (y3 0)) (dI 1)) (i3 (b9 (x8 sG (jQ 2 3))) (y3 0)) (i3 (b9 (y3 1)) (y3 0)))) [sC (.int i),sC (nT a b),sC (d9 N (ts.eraseIdx j)),sC (jR r)]=some false:=λi x x' g1 g2 h1 h2=>by
  refine Ri (a:=true) (W5 (Sn (a:=true) (b:=true) (x:=.int ((x:Int)-1)) (y:=x5 x') (z:=x5 x) ((kP (x:=x5 x) (y:=.int 1) ((lN (ds:=[x5 a,x5 b]) (j:=i) rfl rfl).trans g1) rfl).trans rfl) ((lN (ds:=[x5 a',x5 b']) (j:=i) (nU ((v8 (ds:=[d9 N (ts.eraseIdx j),jR r]) rfl).trans em)) rfl).trans g2) ?_ (λ_=>(lN (ds:=[x5 a,x5 b]) (j:=i) rfl rfl).trans g1) λ_=>?_))
  .show some (D.bl (decide ((x:Int)-1<=(x':Int))))=_;rw[Y1 ⋯]
  .show some (D.bl (decide ((x':Int)<=(x:Int))))=_;rw[Y1 ⋯]
 refine⟨sC (d9 N (ts.eraseIdx j)),sC (.int t.1),sC (.int t.2),?_⟩;refine v9 (Q8 ((v8 (ds:=[d9 N ts,x5 j]) rfl).trans (Wf hj ⋯))) ?_
 have ea:yD (i3 (b9 (jF 0 1)) (y3 9)) (nK 2 (Z9 (u4 11) (Z9 (u4 12) (nJ)))) [sC (d9 N ts),sC (jR r),c2,c3,c4,sC (nT a b),c6,c7,c8,sC (x5 j),sC (d9 N (ts.eraseIdx j)),c11,c12]=some (.nx [sC (d9 N ts),sC (jR r),c2,c3,c4,sC (nT a b),c6,c7,c8,sC (x5 j),sC (d9 N (ts.eraseIdx j)),sC (.int t.1),sC (.int t.2)]):=by unfold yD;rw[(lN (ds:=ts.map j8) (j:=(j:Int)) rfl rfl).trans (Ŵ (show ts[j]?=some t by rw[A4 hj,et]))];rfl
 refine v9 ea ?_;refine v9 (qH (KP (a:=false) (b:=false) (qX (d:=d9 N (ts.eraseIdx j)) rfl (nV (ds:=[.int N,.tup ((ts.eraseIdx j).map j8)]) (u7 rfl (u7 (RA rfl rfl hj ⋯) rfl)) (show 2<=f8 by decide)) CQ) λ_=>qX (d:=d9 N ts) ((v8 (ds:=[d9 N (ts.eraseIdx j),.int t.2,.int t.1]) rfl).trans f1) rfl CQ)) ?_;refine v9 (qH (qX (d:=d9 N ts) ((v8 (ds:=[d9 N ts,.int t.1,.int t.2]) rfl).trans f2) rfl CQ)) ?_
 exact qH (R0 ((nM (ds:=[.int 0,.int 1]) (rZ (nV (ds:=[.int 0,.int 1]) rfl (show 2<=f8 by decide))) (show 2<=f8 by decide)).trans ((Rb rfl (way 0 a a' rfl rfl q1 q2)).trans (Rb rfl (way 1 b b' rfl rfl q3 q4)))))
def ĸ{c:Int}{j i:Nat}(hj:(j:Int)=c % (N:Int))(hi:i<N):((i:Int)+c) % (N:Int)=((if i+j<N then i+j else i+j-N:Nat):Int):=by
 have hjN:(j:Int)<N:=by rw[hj];exact Lc _ ⋯
 have e:(i:Int)+c=((i:Int)+j)+(N:Int)*(c / N):=by
  have:=Int.emod_add_mul_ediv c N
  rw[<-hj]at this;omega
 rw[e,Int.add_mul_emod_self_left];split
 .rw[Int.emod_eq_of_lt ⋯ ⋯];rfl
 .have:((i:Int)+j)=((i+j-N:Nat):Int)+(N:Int)*1:=by omega
  rw[this,Int.add_mul_emod_self_left,Int.emod_eq_of_lt ⋯ ⋯]
def Ϣ{j i:Nat}(hl:r.length=N)(hj:j<N)(hi:i<N):∃h1:i<(r.drop j++r.take j).length,∃h2:(if i+j<N then i+j else i+j-N)<r.length,(r.drop j++r.take j)[i]=r[if i+j<N then i+j else i+j-N]:=by
 have h1:i<(r.drop j++r.take j).length:=by simp;omega
 have h2:(if i+j<N then i+j else i+j-N)<r.length:=by split<;>omega
 refine⟨h1,h2,?_⟩;by_cases z:i+j<N
 .have e:(if i+j<N then i+j else i+j-N)=j+i:=by rw[y6 z];omega
  rw[List.getElem_append_left (by simp;omega),Lo]
  simp only[e]
 .have e:(if i+j<N then i+j else i+j-N)=i-(r.drop j).length:=by rw[y8 z,Ff];omega
  rw[List.getElem_append_right (by simp;omega),List.getElem_take]
  simp only[e]
variable{n:Int}{ts us:List d3}{r al:List Int}{k w:Ba}{K N a b:Nat}
abbrev rE(N:Nat)(ts:List d3)(r:List Int)(c:Int)(c3 c4 c5 c6 c7 c8 c9 c10 c11 c12:Option Cell):J5:=[sC (d9 N ts),sC (jR r),sC (.int c),c3,c4,c5,c6,c7,c8,c9,c10,c11,c12]
def mvC:EL:=Q5 [none,some 4,some 1,some 3,some 0] (kF (jF 0 0)) (u4 0) (u0 (d2 kZ (i3 (b9 (y3 1)) (y3 0)) (i3 (b9 (y3 2)) (d2 oX (d2 jE (y3 0) (y3 3)) (jF 4 0))))) (y3 0)
def ĺ(hl:r.length=N)(h6:N<=6){y:Int}{j:Nat}(hj:(j:Int)=y % (N:Int))(hjN:j<N){c5 c6 c7 c8 c9 c10 c11 c12:Option Cell}:mvC (rE N ts r c (sC (.int y)) (sC (jR (r.drop j++r.take j))) c5 c6 c7 c8 c9 c10 c11 c12)=some []:=by
 refine(nM (ds:=(Aa N).map x5) (AL (j:=N) rfl ⋯) (by rw[A3,At];unfold f8;omega)).trans ?_
 refine(W6 (λY=>∃c,Y=[c,sC (jR (r.drop j++r.take j)),sC (jR r),sC (.int y),sC (d9 N ts)]) (λ_=>false) id _ _ ⟨none,rfl⟩ ?_).trans (by rw[List.filter_eq_nil_iff.mpr λ_ _=>Ay];rfl)
 rintro d hd Y ⟨c,rfl⟩;obtain⟨i,hi,rfl⟩:=Aq.mp hd;have hi:=Am.mp hi;refine⟨_,rfl,⟨_,rfl⟩,?_,λz=>by cases z⟩;obtain⟨g1,g2,g3⟩:=Ϣ hl hjN hi;refine qX (d:=.int (r[if i+j<N then i+j else i+j-N])) ((lN (ds:=(r.drop j++r.take j).map D.int) (j:=(i:Int)) rfl rfl).trans ?_) ((lN (ds:=r.map D.int) (j:=((if i+j<N then i+j else i+j-N:Nat):Int)) rfl ?_).trans (EU g2)) (Bh _)
 .rw[EU g1,g3]
 .refine(kP (x:=.int ((i:Int)+y)) (y:=.int (N:Int)) ((kP (x:=x5 i) (y:=.int y) rfl rfl).trans rfl) rfl).trans ?_;rw[zX _ ⋯,ĸ hj hi]
def Xt(W:nH N ts)(hr:kJ N r)(h1:1<=N)(h6:N<=6)(h9:ts.length<=9)(c:Int):DK [d9 N ts,jR r,.int c]=some (.bl true):=by
 have hl:r.length=N:=by have:=hr.len;omega
 have e3:K3 [.int c,.int 9907,.int 31]=some (.int (mL c 9907 31)):=vI c ∅ ∅;generalize mL c 9907 31=y0 at e3;obtain⟨j,hj,e4⟩:=Zi (r:=r) (y0-15) ⋯ ⋯;rw[hl]at hj
 have hjN:j<N:=by
  have:=Lc (y0-15) (show (0:Int)<N by omega)
  omega
 have hmv:=jC.moved (K:=0) W ⋯ (r.take j) (r.drop j) (by rw[Fp];exact hr)
 have ck:∀K,jC ts r "cross" K↔jC ts (r.drop j++r.take j) "cross" K:=λK=>by
  have:=(jC.moved (K:=K) W ⋯ (r.take j) (r.drop j) (by rw[Fp];exact hr)).2
  rwa [Fp]at this
 have hro:=hmv.1;obtain⟨a,b,m1,M1⟩:=zE (W.lay hr ⋯ ⋯) ⋯;obtain⟨a2,b2,m2,M2⟩:=zE (W.lay hro ⋯ ⋯) ⋯;obtain⟨a3,b3,m3,M3⟩:=zE (W.lay hr.rev ⋯ ⋯) ⋯
 obtain rfl:=(M1.same M2).1 ck
 obtain rfl:=(M1.same M3).1 λK=>jC.rev W hr ⋯
 obtain rfl:=(M1.same M3).2 λK=>jC.rev W hr ⋯
 obtain⟨al,e6,hp⟩:=NU (c / 5) (n:=(N:Int)) ⋯ ⋯;rw[Av]at hp;have hn:kJ N al:=kJ.of hp;have hnl:(al.length:Int)=N:=hn.len;have e7:=Wd W hn ⋯;have hrn:=hr.names hn;obtain⟨a4,b4,m4,M4⟩:=zE ((â W hn).lay hrn ⋯ (by rw[(rD _).length_eq,EM];omega)) (by rw[(rD _).length_eq,EM];omega)
 have hnf:∀{w:Ba} (K:Nat),jC ts r w K↔jC (mO (nQ al ts)) (r.map (nm al)) w K:=λ{w} K=>jC.names W hr (λx hx z hz e=>by
  have:=(hr.mem x).mp hx
  have:=(hr.mem z).mp hz
  exact xG hn.nd ⋯ ⋯ e) λs=>by
  rw[(rD _).mem_iff];unfold nQ;rw[Aq];exact⟨λ⟨t,ht,e⟩=>⟨t,ht,e.symm⟩,λ⟨t,ht,e⟩=>⟨t,ht,e.symm⟩⟩
 obtain rfl:=(M1.same M4).1 hnf
 obtain rfl:=(M1.same M4).2 hnf
 have e8:∀c3 c4 c5 c7 c8 c9 c10 c11 c12,Q5 [none,none,some 6] (b9 (jF 0 1)) (nK 2 (Z9 (u4 0) (Z9 (u4 1) (nJ)))) lH (lR (nS lO (m7 (z9 (i3 (b9 (y3 2)) (y3 0)) (z9 (i3 (b9 (y3 2)) (y3 1)) Q7))))) (rE N ts r c c3 c4 c5 (sC (jR al)) c7 c8 c9 c10 c11 c12)=some ((nQ al ts).map j8):=λc3 c4 c5 c7 c8 c9 c10 c11 c12=>Tc W hn ⋯ rfl rfl λt x y g1 g2=>qV ((xS (ds:=[.int x,.int y]) (zT (u7 ((lN (ds:=al.map D.int) (j:=t.1) rfl rfl).trans g1) (u7 ((lN (ds:=al.map D.int) (j:=t.2) rfl rfl).trans g2) rfl)) (show 2<=f8 by decide))).trans (v1B x y))
 have e12:∀c3 c4 c5 c7 c8 c9 c10 c11 c12,Q5 [none,some 6] (b9 (y3 1)) (u4 0) lH (i3 (b9 (y3 1)) (y3 0)) (rE N ts r c c3 c4 c5 (sC (jR al)) c7 c8 c9 c10 c11 c12)=some ((r.map (nm al)).map D.int):=λc3 c4 c5 c7 c8 c9 c10 c11 c12=>by
  refine(nM (ds:=r.map D.int) rfl (by rw[A3];unfold f8;omega)).trans ?_
  refine(vG (λY=>∃c,Y=[c,sC (jR al)]) (λd=>match d with|.int p=>.int (nm al p)|_=>.non) _ _ ⟨none,rfl⟩ ?_).trans (by rw[B2,B2];rfl)
  rintro d hd Y ⟨c,rfl⟩;obtain⟨p,hp,rfl⟩:=Aq.mp hd
  have:=(hr.mem p).mp hp
  exact⟨_,rfl,⟨_,rfl⟩,(lN (ds:=al.map D.int) (j:=p) rfl rfl).trans (LO ⋯ ⋯)⟩
 have eL:∀c3 c4 c6 c7 c8,∃c9 c10 c11 c12,lB (kF (kE (b9 (jF 0 1)))) (u4 9) IU (rE N ts r c c3 c4 (sC (nT a4 b4)) c6 c7 c8 none none none none)=some (.nx (rE N ts r c c3 c4 (sC (nT a4 b4)) c6 c7 c8 c9 c10 c11 c12)):=λc3 c4 c6 c7 c8=>by
  obtain⟨Y',e,c9,c10,c11,c12,rfl⟩:=SN (h:=u4 9) (g:=IU) (λY=>∃c9 c10 c11 c12,Y=rE N ts r c c3 c4 (sC (nT a4 b4)) c6 c7 c8 c9 c10 c11 c12) (ds:=(Aa ts.length).map x5) (Y:=rE N ts r c c3 c4 (sC (nT a4 b4)) c6 c7 c8 none none none none) ⟨_,_,_,_,rfl⟩ (λd hd Y hI=>by
   obtain⟨c9,c10,c11,c12,rfl⟩:=hI;obtain⟨i,hi,rfl⟩:=Aq.mp hd;obtain⟨x10,x11,x12,e⟩:=Ė W hr h6 h9 M1 (Am.mp hi) (c2:=sC (.int c)) (c3:=c3) (c4:=c4) (c6:=c6) (c7:=c7) (c8:=c8) (c10:=c10) (c11:=c11) (c12:=c12)
   exact⟨_,_,rfl,.inl e,_,_,_,_,rfl⟩)
  exact⟨c9,c10,c11,c12,(oZ (AL (j:=ts.length) ((p7 (ds:=ts.map j8) rfl).trans (by rw[A3])) ⋯)).trans e⟩
 refine nP (x:=QN (rE N ts r c none none none none none none none none none none)) ?_;refine v9 (Q8 ((kP (x:=.int y0) (y:=.int 15) ((v8 (ds:=[.int c,.int 9907,.int 31]) rfl).trans e3) rfl).trans rfl)) ?_;refine v9 (Q8 ((v8 (ds:=[jR r,.int (y0-15)]) rfl).trans e4)) ?_;refine v9 (qH (qX (d:=.lst ((kB 0 N).map D.int)) (oE ((xS (ds:=(r.drop j++r.take j).map D.int) rfl).trans ?_)) (oE ((DC (j:=(N:Int)) rfl ⋯ ⋯).trans (by rw[Av]))) (P8 _).1)) ?_
 .have:=hro.len
  unfold lO;rw[y6 (by rw[A3];omega),Qi]
  right;rw[ē hro.perm]
 refine v9 (qH (qX (d:=jR r.reverse) ((v8 (ds:=[jR r]) rfl).trans QE) (show some (D.tup (r.map D.int).reverse)=_ by rw[<-List.map_reverse];rfl) (P8 _).2)) ?_
 refine v9 (qH (R0 (ĺ (ts:=ts) hl h6 hj hjN))) ?_;refine v9 (Q8 ((v8 (ds:=[d9 N ts,jR r]) rfl).trans m1)) ?_;refine v9 (qH (KP (a:=false) (b:=false) (qX (d:=x5 a4) ((lN (ds:=[x5 a4,x5 b2]) (j:=0) (nU ((v8 (ds:=[d9 N ts,jR (r.drop j++r.take j)]) rfl).trans m2)) rfl).trans rfl) rfl (Bh _)) λ_=>qX (d:=nT a4 b4) ((v8 (ds:=[d9 N ts,jR r.reverse]) (u7 rfl (u7 ((v8 (ds:=[jR r]) rfl).trans QE) rfl))).trans m3) rfl P9)) ?_
 refine v9 (Q8 ((v8 (ds:=[.int (c / 5),.int N]) (u7 ((kP (x:=.int c) (y:=.int 5) rfl rfl).trans rfl) rfl)).trans e6)) ?_;refine v9 (Q8 ((v8 (ds:=[d9 N ts,jR al]) rfl).trans e7)) ?_;refine v9 (Q8 (oE (e8 _ _ _ _ _ _ _ _ _))) ?_;refine v9 (qH (qX (d:=d9 N (mO (nQ al ts))) rfl (nV (ds:=[.int N,.tup ((mO (nQ al ts)).map j8)]) (u7 rfl (u7 (qV ((xS (ds:=(nQ al ts).map j8) rfl).trans (DH (by rw[EM];omega)))) rfl)) (show 2<=f8 by decide)) CQ)) ?_
 refine v9 (qH (qX (d:=nT a4 b4) ((v8 (ds:=[d9 N (mO (nQ al ts)),jR (r.map (nm al))]) (u7 rfl (u7 (qV (e12 _ _ _ _ _ _ _ _ _)) rfl))).trans m4) rfl P9)) ?_;obtain⟨c9,c10,c11,c12,e⟩:=eL (sC (.int (y0-15))) (sC (jR (r.drop j++r.take j))) (sC (jR al)) (sC (d9 N (mO (nQ al ts)))) (sC (.lst ((nQ al ts).map j8)));exact v9 e rfl
variable{ts:List d3}{r:List Int}{N:Nat}
def Ψ(ns:List Int)(j:Nat):∃c:Int,uA [.lst (ns.map D.int),x5 j]=some (.int c):=by
 show ∃c:Int,lM (DD [sC (.lst (ns.map D.int)),sC (x5 j)])=_;have t0:u0 (d2 oU (y3 1) (kE (b9 (y3 0)))) [sC (.lst (ns.map D.int)),sC (x5 j)]=some (decide (j<ns.length)):=W5 ((kP (x:=x5 j) (y:=x5 ns.length) rfl ((p7 (ds:=ns.map D.int) rfl).trans (by rw[A3];rfl))).trans ((lt_int _ _).trans (by rw[decide_eq_decide.mpr (show (j:Int)<(ns.length:Int)↔j<ns.length by omega)])))
 by_cases h:j<ns.length
 .rw[Y1 h]at t0;have fin:DD [sC (.lst (ns.map D.int)),sC (x5 j)]=some (.rt (.int ns[j])):=AF ((mI t0).trans (lU ((lN (ds:=ns.map D.int) (j:=(j:Int)) rfl rfl).trans (EU h))));exact⟨_,lE lM fin⟩
 .rw[W4 h]at t0;have fin:DD [sC (.lst (ns.map D.int)),sC (x5 j)]=some (.rt (.int 0)):=v9 (qH t0) rfl;exact⟨_,lE lM fin⟩
def JD(ns:List Int)(j:Nat){p m:Int}(hp:0<p)(hm:0<m)(o:Int)(h:y3 0 Y=some (.lst (ns.map D.int))):∃x:Int,0<=x/\x<m/\d2 jE (dC (.int o)) (x8 K3 (z9 (x8 uA (z9 (y3 0) (z9 (dC (x5 j)) Q7))) (z9 (dC (.int p)) (z9 (dC (.int m)) Q7)))) Y=some (.int (o+x)):=by obtain⟨c,e⟩:=Ψ ns j;exact⟨mL c p m,xF c p hm,xE c p hm,(kP (x:=.int o) (y:=.int (mL c p m)) rfl ((v8 (ds:=[.int c,.int p,.int m]) (u7 ((v8 (ds:=[.lst (ns.map D.int),x5 j]) (u7 h rfl)).trans e) rfl)).trans (vI c hp hm))).trans rfl⟩
def JC:EO:=
 (J6 (i4 2 (x8 CN (z9 (y3 1) (z9 (dI 6) (z9 (dI 9) Q7)))))
 (jV (rJ (u0 (x8 DK (z9 (y3 2) (z9 (x8 zD (z9 (d2 vO (y3 1) (dI 3)) (z9 (jF 2 0) Q7))) (z9 (d2 vO (y3 1) (dI 7)) Q7))))))
 mM
 jZ))
abbrev wE(c0 c1 c2 c3 c4 c5 c6 c7 c8 c9:Option Cell):J5:=[c0,c1,c2,c3,c4,c5,c6,c7,c8,c9]
def ı(c:Int){c0 c2:Option Cell}:∃jt,JC (wE c0 (sC (.int c)) c2 none none none none none none none)=some (.nx (wE c0 (sC (.int c)) jt none none none none none none none)):=by
 obtain⟨n',ts,w1,w2,w3,w4⟩:=Wc c (most:=6) (ties:=9) ∅ ∅ ∅ ∅;have hlo:=w2.lo;obtain⟨N,rfl⟩:=Dh (show 0<=n' by omega);obtain⟨r,e1,hp⟩:=NU (c / 3) (n:=(N:Int)) ⋯ ⋯;rw[Av]at hp;refine⟨sC (d9 N ts),?_⟩;refine v9 (Y':=wE c0 (sC (.int c)) (sC (d9 N ts)) none none none none none none none) (Q8 ((v8 (ds:=[.int c,.int 6,.int 9]) rfl).trans w1)) ?_
 exact qH (Ri (a:=true) (W5 ((v8 (ds:=[d9 N ts,jR r,.int (c / 7)]) (u7 rfl (u7 ((v8 (ds:=[.int (c / 3),.int N]) (u7 ((kP (x:=.int c) (y:=.int 3) rfl rfl).trans rfl) rfl)).trans e1) (u7 ((kP (x:=.int c) (y:=.int 7) rfl rfl).trans rfl) rfl)))).trans (Xt ⟨w2.up,w2.ok⟩ (kJ.of hp) ⋯ ⋯ ⋯ _))))
theorem YS(g h k:EO):J6 g (J6 h k)=J6 (J6 g h) k:=funext λY=>by
 unfold J6
 cases g Y with
 |none=>rfl
 |some o=>cases o<;>rfl
def LL{g1 g2 g3 g4 g5 k:EO}{Y Y':J5}{o:Option Out}(h:J6 g1 (J6 g2 (J6 g3 (J6 g4 g5))) Y=some (.nx Y'))(h2:k Y'=o):J6 g1 (J6 g2 (J6 g3 (J6 g4 (J6 g5 k)))) Y=o:=by
 have:=v9 h h2
 simp only[YS]at this ⊢;exact this
def U5:EO:=
  (J6 (nL 6 (m7 Q7))
 (J6 (lB (kF (y3 7)) (u4 5)
 (o6 6 (Q5 [none,some 5,some 7] (kF (y3 8)) (u4 0) lH (jP (z9 (y3 1) (z9 (d2 jE (y3 2) (y3 0)) Q7))))))
 (J6 (jV (u0 (d2 kZ (x8 uY (jQ 7 8)) (jP (z9 (d2 jE (y3 7) (y3 8)) (z9 (lR (kK 6)) Q7)))))
 mM
 jZ)
 (J6 (i4 9 (d2 jE (dI 1) (x8 BD (z9 (yC (d2 lY (y3 7) (dI 2)) (d2 lY (y3 8) (dI 3))) Q7))))
 (i9 (yC (d2 lY (x8 W8 (z9 (x8 uY (jQ 7 8)) (z9 (dC (.str "pile")) Q7))) (y3 9)) (d2 lY (x8 W8 (z9 (x8 uY (jQ 7 8)) (z9 (dC (.str "queue")) Q7))) (dI 1))))))))
def À:∀x y:Int,0<=x/\x<2->0<=y/\y<3->U5 (wE c0 c1 c2 c3 c4 c5 c6 (sC (.int (1+x))) (sC (.int (1+y))) none)=some (.rt (.bl true)):=λx y hx hy=>by
 have h1:x=0\/x=1:=by omega
 have h2:y=0\/y=1\/y=2:=by omega
 rcases h1 with rfl|rfl<;>rcases h2 with rfl|rfl|rfl<;>kernel_rfl
def IH(ns:List Int){c0 c1 c2 c3 c4 c5 c6:Option Cell}(h:c0=sC (.lst (ns.map D.int))):(J6 (i4 7 (d2 jE (dI 1) (x8 K3 (z9 (x8 uA (z9 (y3 0) (z9 (dI 3) Q7))) (z9 (dI 9887) (z9 (dI 2) Q7))))))
 (J6 (i4 8 (d2 jE (dI 1) (x8 K3 (z9 (x8 uA (z9 (y3 0) (z9 (dI 3) Q7))) (z9 (dI 9883) (z9 (dI 3) Q7))))))
 U5)) (wE c0 c1 c2 c3 c4 c5 c6 none none none)=some (.rt (.bl true)):=by
 subst h;obtain⟨x,x1,x2,ex⟩:=JD ns 3 (p:=9887) (m:=2) ∅ ∅ 1 (Y:=wE (sC (.lst (ns.map D.int))) c1 c2 c3 c4 c5 c6 none none none) rfl;obtain⟨y,y1,y2,ey⟩:=JD ns 3 (p:=9883) (m:=3) ∅ ∅ 1 (Y:=wE (sC (.lst (ns.map D.int))) c1 c2 c3 c4 c5 c6 (sC (.int (1+x))) none none) rfl;exact v9 (Q8 ex) (v9 (Q8 ey) (À x y ⟨x1,x2⟩ ⟨y1,y2⟩))
def law_true:∀ns:List Int,ns.length<=63->xM [.lst (ns.map D.int)]=some (.bl true):=by
 intro ns _;generalize hS:(sC (.lst (ns.map D.int)):Option Cell)=S
 obtain⟨Y',e,c1,c2,rfl⟩:=SN (h:=u4 1) (g:=JC) (λY=>∃c1 c2,Y=wE S c1 c2 none none none none none none none) (ds:=(ns.take 2).map D.int) (Y:=wE S none none none none none none none none none) ⟨_,_,rfl⟩ (λd hd Y hI=>by
  obtain⟨c1,c2,rfl⟩:=hI;obtain⟨c,_,rfl⟩:=Aq.mp hd;obtain⟨x,e⟩:=ı c (c0:=S) (c2:=c2)
  exact⟨_,_,rfl,.inl e,_,_,rfl⟩)
 have e0:lB (b9 (l5 (y3 0) (nE) (mH (dI 2)))) (u4 1) JC (wE S none none none none none none none none none)=some (.nx (wE S c1 c2 none none none none none none none)):=(oZ (by
  rw[<-hS]
  have:=JE (ns.map D.int) 2
  rw[<-Nm]at this;rw[<-this]
  rfl)).trans e
 obtain⟨m,m1,m2,em⟩:=JD ns 2 (p:=9901) (m:=3) ∅ ∅ 2 (Y:=wE S c1 c2 none none none none none none none) (by rw[<-hS];rfl)
 have fin:MA (wE S none none none none none none none none none)=some (.rt (.bl true)):=by
  refine v9 e0 (v9 (Y':=wE S c1 c2 (sC (.int (2+m))) none none none none none none) (Q8 em) ?_)
  have hm:m=0\/m=1\/m=2:=by omega
  rcases hm with rfl|rfl|rfl
  .exact LL (Y':=wE S c1 c2 (sC (.int 2)) (some (.ow [j8 (0,1)])) (sC (.int 1)) none none none none) (by kernel_rfl) (IH ns hS.symm)
  .exact LL (Y':=wE S c1 (sC (d9 3 [(0,1),(0,2),(1,2)])) (sC (.int 3)) (some (.ow ([(0,1),(0,2),(1,2)].map j8))) (sC (.int 2)) (some (.ow ([(0,1),(1,2),(0,2)].map j8))) none none none) (by kernel_rfl) (IH ns hS.symm)
  .exact LL (Y':=wE S c1 (sC (d9 4 [(0,1),(0,3),(1,2),(2,3)])) (sC (.int 4)) (some (.ow ([(0,1),(0,2),(1,2),(0,3),(1,3),(2,3)].map j8))) (sC (.int 3)) (some (.ow ([(0,1),(1,2),(2,3),(0,3)].map j8))) none none none) (by kernel_rfl) (IH ns hS.symm)
 show lM (MA (wE (sC (.lst (ns.map D.int))) none none none none none none none none none))=_;rw[hS];rw[fin];rfl
end P
open PySem PySem.W PyProof.Rows

def PySem.W.Fast.te3863792084736378663:True:=trivial
def PySem.W.Fast.tw1783585121562099903:True:=trivial
def PySem.W.Fast.tw4896699930435756162:True:=trivial
def PySem.W.Fast.tw8811453898674615604:True:=trivial
def PySem.W.Fast.tw4533731851945824826:True:=trivial
def PySem.W.Fast.tw6623645186490361976:True:=trivial
def PySem.W.Fast.tw7708217068278148326:True:=trivial
def PySem.W.Fast.tw12290885731564673278:True:=trivial
def PySem.W.Fast.tw11815493701542320510:True:=trivial
def PySem.W.Fast.tw14368294414150895662:True:=trivial
def PySem.W.Fast.tw16817421795187786662:True:=trivial
def PySem.W.Fast.tw2034785030142827248:True:=trivial
def PySem.W.Fast.tw8318356751915335138:True:=trivial
def PySem.W.Fast.tw9054260957400121996:True:=trivial
def PySem.W.Fast.tw17394533605176517111:True:=trivial
def PySem.W.Fast.tw12240183893852531451:True:=trivial
def PySem.W.Fast.tw18153968094166376804:True:=trivial
set_option maxRecDepth 100000 in
set_option maxHeartbeats 0 in
theorem PySem.Challenge.cw_pageties_k09_whole_rows_and_webs_changed_holds : PySem.Challenge.rw_pageties_k09_whole_rows_and_webs_changed.Holds := by
 w_on;o_law;k_head;(case hw=>w_witness2)
 k_fill
 refine P.walk (l:=PySem.Challenge.rw_pageties_k09_whole_rows_and_webs_changed) rfl rfl (λw h ya=>PySem.W.km_in_of ya) (λw h ya P q e=>PySem.W.km_tabs_of ya P (Cd (f:=Bo) (L3.mem_look e))) (λw=>by kernel_rfl) P.law_true ?F
 case F=>
  intro w mg fa h KX G ig;apply P.all_mk ig;constructor
  all_goals first
   |exact⟨trivial⟩
   |exact PySem.W.mg_none_of KX G (by k_is)
   | (refine' P.st_mk KX G ?a ?b ?c ?d;(case a=>k_is);(case b=>k_is);(case c=>k_is);(case d=>k_is))
   | (refine' P.stL_mk KX G ?a ?b ?c ?d ?e;(case a=>k_is);(case b=>k_is);(case c=>k_is);(case d=>k_is);(case e=>kernel_rfl))
   | (refine' P.tb_CLASHING KX G ?a ?b ?c ?v0 ?v1;(case a=>k_is);(case b=>k_is);(case c=>k_keys);(case v0=>k_is);(case v1=>k_is))
