import PyProof.Rows.All
import Wide.All
import OpenK.AllK
import PySem.Challenge.RW_edgemoss_k15_grown_and_eaten
open PySem renaming Value->aa,Addr->ab,Shared->ae,wpAny_bind->af,Expr->ag,wpAny->ai,model->ar,World->ay,wpAny_pure->az,Program->aE,eval->aS,Around->a8,starEach->a9,Stmt->be,cLine->bo,Spec->br,SetTable->bE,mainGlobals->bX,FuncData->b9,intKind->cb,rawInt->cn,Builtin->cq,IsTupleKey->cK,backTo->c6,holding->du,assignEach->dy,sizeLine_eq->dA,wpAny_mono->dQ,pyNext->dS,NameKind->d3,swapsWith->d6,wpAny_holding->ez,compareOp->eR,argBest->eW,foldedSetIterable->fw,codeAny->fx,wpAny_newObj_type->fN,sysModules->f7,mem_of_lookup->gf,plainId_quiet->gu,binaryOp->gL,codeAny_builtin->g8,wpAny_call_entry->g9,wpAny_rule->g_,wpAny_updateSeq->hG,bootBuiltins->ic,behindInMarks->ij,backToKw->ik,keywordEach->il,wpAny_of_eq->iE,isSubtype_type->iF,argsOk->iL,CmpOp->i3,Keyword->i4,SetTable->i7,pyIter->i_,bindL->ja,bindC->jb,wpAny_setState_of->j6,wpAny_attempt->j8,updateSeq->j_,standAt->kd,swapsWithSole->ke,swappedStores->kg,PassesOwn->ki,attributeBase->ku,DictEntry->kv,wpAny_tryCatch->kN,codeAmong->kQ,GenState->kS,wpAny_truthy_bool->kU,BindsTo->k0,Arguments->k7,callerA->k_,codeAny_mono->lh,wpAny_typeOf->l5,wpAny_seqItems->l6,wpAny_specialOf->l8,typeLookup_type->md,builtinLookup_eq_fast->me,wpAny_callSpecial?_slot->mf,firstArgMember->ml,wpAny_isInstance->mo,tupleKind->mS,wpAny_passesOwn->mT,wpAny_Call_Name_kw->m_,seqIndex?->nh,wpAny_askSetting->nV,entryFor->n6,wpAny_setField->n8,Fin->n_,wpAny_field->oy,wpAny_letGo->oB,letOwnedTupleGo->oI,wpAny_pyIter_list->oP,compPost->o8,wpAny_call->o_,carriedByValue->p9,ofAClassStatement->p_,setSearchFrom->qc,hashByValue->qf,wpAny_runValue->qh,wpAny_pyIter_slot->qk,wpAny_fieldsOf->qo,tupleKind_room_in1->rh,wpAny_typeNameOfWhole_keyiter->rn,wpAny_typeNameOf_keyiter->rL,wpAny_execs_nil->se,wpAny_standAt->sf,recursionLimit->sg,seqIndex_of->sj,wpAny_Call_method_late->sk,wpAny_forIn_list->tw,pickOrder->t9,entryFor_alias->ue,wpAny_setEntries_of->uj,wpAny_handled->uv,wpAny_throw->uA,isSubtype_stop->uB,codeAny_extend_loopS->uC,Builtin->u0,wpAny_setField_rec->vk,wpAny_dictEntries->vn,wpAny_dictEpoch->vt
open PySem.W renaming Frag->ah,nsIn->ck,fnOf->c9,codeIn->c_,keepIn->dc,mg_of->de,fnOf->eJ,mg_none_of->f6,keepIn->f_,codeHdIn->h_,hideAll->i9,codeIn->k8,OpenLaw->k9,kia_one->ls,findIn->m6,methodObj->oD,nsIn->o4,hideAll_get->r_
open PyProof.Rows renaming Keyed->aw,arrOf->ax,wpS_bind->aI,SortSt->a_,wpS_pure->ba,pendingOf->bP,elem'->c4,wpS_mono->d8,seqObj->d9,wpS_forRange->eD,SortKind->eL,failedOf->eM,wpS_get->gy,mirror->hV,wpS_modify->iN,envOfC->jv,seqObj->kb,AllBare->kc,wpS_lift->kG,envOfC->lz,setPending->mx,IntsAre->nc,reverseSlice'->og,minRun'->ot,boot_sorted->ox,callWith_type1->oQ,AllBare->o9,listUpdate_at->u7,get?_update_seq->u_,seqEpoch_at->va,IsTup->vi
open PySem.Heap renaming lt_size->bg,get?_push_of_some->b0,get?_push_size->cy,SameBut->et,get?_update_self->fg,get?_update_other->fm,get?_update_ne->kL,size_push->nB,ExtBut->qr,size_update->rf
open Nat renaming le_refl->bj,ne_of_lt->bS,le_trans->cx,lt_of_lt_of_le->dP,zero_le->d7,le_of_lt->fv,lt_irrefl->f9,mod_eq_of_lt->iq,zero_add->iO,lt_of_le_of_lt->i5,lt_succ_of_lt->jS,ne_of_gt->kX,pow_succ->lI,mod_lt->lL,add_zero->lS,lt_or_ge->mw,add_mul->mM,one_mul->mN,le_succ->nv,add_assoc->oo,mul_assoc->pj,add_mul_mod_self_left->pk,mod_eq_sub_mod->pM,mul_le_mul->r8,min_self->sD,add_mod->sM,pos_of_ne_zero->sN,mul_mod->sP,lt_trans->sR,add_comm->tj,le_add_right->tz,succ_ne_self->t_
open Bool renaming false_eq_true->bq,not_true->eC,and_eq_true->ky,and_false->nz,not_false->nL,and_true->o6,or_eq_true->pd,or_self->qa,false_ne_true->sL
open List renaming range->bu,mem_cons->bz,length_map->b8,map_cons->b_,getElem?_map->cf,length_cons->cv,size_toArray->cw,getElem?_set_ne->cS,mem_map->c8,mem_cons_self->df,getElem?_eq_some_iff->di,getElem?_set_self->dk,mem_append->dq,mem_cons_of_mem->dt,length_append->dC,mem_singleton->dE,getElem?_eq_getElem->d4,mem_range->ef,mem_append_right->eA,getElem_mem->eB,length->eI,getD_eq_getElem?_getD->eK,mem_filter->eQ,map_map->eS,find?_cons->eT,pairwise_cons->fq,getElem?_append_left->fy,length_nil->fI,append_nil->gc,replicate->gd,getElem?_append_right->gi,pairwise_append->gp,not_mem_nil->gx,append_assoc->gN,Perm->g7,length_range->hW,set_cons_zero->hZ,drop_eq_getElem_cons->ip,set_cons_succ->iP,Nodup->iS,mem_filterMap->iX,lookup_cons->i6,nodup_cons->jn,getElem?_replicate->jI,pairwise_iff_getElem->j3,perm_append_comm->j5,toArray->ka,length_take->km,mem_of_getElem?->ko,map_nil->kq,foldl_cons->kx,all_eq_true->kz,map_append->kC,ext_getElem->kD,mem_iff_getElem?->kK,filterMap_cons->kR,mem_append_left->kT,getElem?_take_of_lt->k6,range_succ_eq_map->lj,drop_eq_nil_of_le->ll,lookup_cons_self->lr,mem_iff_getElem->lT,take_append_drop->l4,filter_cons->my,mem_map_of_mem->mB,length_filter_le->mE,take_sublist->m8,length_replicate->m9,Pairwise->ny,filterMap_cons_some->nI,map_congr_left->nS,getD->nX,length_eq_zero_iff->n4,getElem?_drop->om,mem_reverse->oq,length_singleton->o3,drop_length->o7,mem_of_mem_take->pV,eraseIdx_cons_succ->qi,ext_getElem?->qE,getElem?_take_eq_none->q8,length_drop->q_,nil_append->rS,getElem?_cons_succ->rV,of_mem_zip->si,all_cons->sx,all_map->sC,lookup->sF,take_of_length_le->sT,map_take->s_,map_drop->td,drop_sublist->tf,map_filterMap->tm,filterMap_cons_none->tq,nodup_nil->tN,isEmpty_nil->ui,cons_append->u5,reverse_cons->vl,length_pos_iff->vw
open Option.some renaming inj->cz
open PySem.Obj renaming mapSeq->cE,mapFields->n9,data_mapFields->qq,isFreed_of_fields->uk
open Ne renaming symm->dm
open Int renaming le_trans->d_,le_of_lt->fR,le_refl->gz,emod_nonneg->j0,toNat_natCast->kA,emod_lt_of_pos->kB,add_assoc->mI,not_lt->oj,one_mul->oC,add_mul->rX
open PySem.PassesOwn renaming never->e_
open False renaming elim->fE
open Array renaming getElem?_toList->fF,size_push->gE,getD->gS,getElem?_eq_some_iff->gT,toList_append->ir,length_toList->i0,getD_eq_getD_getElem?->j4,getElem?_eq_getElem->kF,size_append->kH,toList_inj->pS,toList_push->pT,replicate->p8,getElem?_eq_none->qs,perm_iff_toList_perm->qS,size_extract->qV
open PySem.Around renaming under_plainId->iA
open List.Pairwise renaming sublist->i8
open PySem.F renaming called_set->j7,plain_max_loop->kM,slot_dict_keyiterator_next->oz,plain_list_iadd->qA,plain_extend_loop->qB,plainAttrs_list->vc,slot_dict_get->ve,entry_max_loop->vu
open PySem.Builtin.List renaming listExtendWith->j9,listSameRef->mv,listTooLong->oS,listLengthHint->qv
open PySem.Value renaming isInt_shape->kP
open PySem.Heap.SameBut renaming update->l9
open PySem.Builtin.Frozenset renaming updateFrom->l_
open PySem.Str renaming ofString->mh
open PySem.SeqAt renaming EqAt->mP
open PySem.Walks renaming list->nE
open Option renaming map_some->nK,getD_some->nN,map_eq_some_iff->p7
open List.Perm renaming append_left->n5,of_eq->oa,append_right->u4
open Function renaming comp_def->o5
open PyProof.Rows.SortSt renaming mk'->q9
open PySem.Calls renaming callWith_builtin->sm,evalArgs_plain->sq
open Prod.mk renaming injEq->sQ
open PyProof.Rows.F renaming plain_set_update_loop->tx
open PySem.Shared renaming TypeIs->tJ
open PySem.pickOrder renaming go->tP
open PySem.ItemsOf renaming nil->uS
open Classical renaming choose->u6
set_option Elab.async false
set_option linter.all false
set_option maxRecDepth 100000
set_option maxHeartbeats 0
namespace L2
open PySem PySem.Spec PyProof.Rows
abbrev Qn:=Sum Int Str
def aht:Qn->aa->Bool
 | .inl k,v=>aa.isInt k v
 | .inr x,v=>aa.isStrOf x v
def anH(w:ay):Qn->Int
 | .inl k=>hashInt k
 | .inr x=>hashStr w x
theorem dN:∀{k:Qn}{v:aa},aht k v=true->(∃i t,k=Sum.inl i/\v=aa.int i t)∨(∃x t,k=Sum.inr x/\v=aa.str x t)
 | .inl i,v,h=>by obtain⟨t,e⟩:=kP (k:=i) (v:=v) h;exact .inl ⟨i,t,rfl,e⟩
 | .inr x,v,h=>by obtain⟨t,e⟩:=aa.isStrOf_shape (x:=x) (v:=v) h;exact .inr ⟨x,t,rfl,e⟩
theorem aib(a b:Int):decide ((Sum.inl a:Qn)=Sum.inl b)=(a == b):=by
 by_cases e:a=b
 ·subst e;simp
 ·have h:¬(Sum.inl a:Qn)=Sum.inl b:=fun q=>e (Sum.inl.inj q);rw[decide_eq_false h];exact(beq_eq_false_iff_ne.mpr e).symm
theorem aic(a b:Str):decide ((Sum.inr a:Qn)=Sum.inr b)=decide (a=b):=by
 by_cases e:a=b
 ·subst e;simp
 ·have h:¬(Sum.inr a:Qn)=Sum.inr b:=fun q=>e (Sum.inr.inj q);rw[decide_eq_false h,decide_eq_false e]
theorem aie(a:Int)(b:Str):decide ((Sum.inl a:Qn)=Sum.inr b)=false:=decide_eq_false (fun q=>nomatch q)
theorem aif(a:Str)(b:Int):decide ((Sum.inr a:Qn)=Sum.inl b)=false:=decide_eq_false (fun q=>nomatch q)
def Yo(prog:aE)(w:ay):PySem.KeyKind prog w Qn where
  is:=aht
  hash:=anH w
  inj:=fun v a b ha hb=>by
    rcases dN ha with ⟨i,t,rfl,rfl⟩|⟨x,t,rfl,rfl⟩
    . rcases dN hb with ⟨j,u,rfl,e⟩|⟨y,u,rfl,e⟩
      . injection e with e1 _;rw[e1]
      . exact nomatch e
    . rcases dN hb with ⟨j,u,rfl,e⟩|⟨y,u,rfl,e⟩
      . exact nomatch e
      . injection e with e1 _;rw[e1]
  byValue := fun k v h => by rcases dN h with ⟨i,t,rfl,rfl⟩|⟨x,t,rfl,rfl⟩ <;> rfl
  pyHash:=fun hv h=>by
    rcases dN hv with ⟨i,t,rfl,rfl⟩|⟨x,t,rfl,rfl⟩
    . exact wpAny_pyHash_int h
    . exact wpAny_pyHash_str h
  eqBool:=fun hu hv h=>by
    rcases dN hu with ⟨i,t,rfl,rfl⟩|⟨x,t,rfl,rfl⟩
    . rcases dN hv with ⟨j,u,rfl,rfl⟩|⟨y,u,rfl,rfl⟩
      . rw[aib]at h;exact wpAny_eqBool_int h
      . rw[aie]at h;exact mP.int_str i t y u _ _ _ _ h
    . rcases dN hv with ⟨j,u,rfl,rfl⟩|⟨y,u,rfl,rfl⟩
      . rw[aif]at h;exact mP.str_int x t j u _ _ _ _ h
      . rw[aic]at h;exact wpAny_eqBool_str h
  «strs»:=fun k x t v h=>by
    rcases dN h with ⟨i,u,rfl,e⟩|⟨y,u,rfl,e⟩
    . exact nomatch e
    . injection e with e1 _
      subst e1;cases v <;> rfl
inductive V where
 |non|bl (b:Bool)|int (i:Int)|str (x:Str)|byt (b:Array UInt8)|flt (b:UInt64)|ref (a:ab)|ty (n:String)
 deriving DecidableEq
def RelV:V->aa->Prop
 | .non,u=>u=aa.none
 | .bl b,u=>u=aa.bool b
 | .int i,u=>∃t,u=aa.int i t
 | .str x,u=>∃t,u=aa.str x t
 | .byt b,u=>∃t,u=aa.bytes b t
 | .flt b,u=>∃t,u=aa.float b t
 | .ref a,u=>u=aa.ref a
 | .ty n,u=>u=aa.type n
abbrev Vals:List V->List aa->Prop:=Paired RelV
theorem Vals.length{xs:List V}{us:List aa}(r:Vals xs us):xs.length=us.length:=Paired.length r
theorem Vals.get:∀{xs:List V}{us:List aa}{i:Nat}{x:V},Vals xs us->xs[i]?=some x->∃u,us[i]?=some u/\RelV x u
 |_,_,_,_,.nil,e=>by simp at e
 |_,_,0,_,.cons r _,e=>by simp at e;subst e;exact⟨_,rfl,r⟩
 |_,_,i + 1,x,.cons _ t,e=>by obtain⟨u,h1,h2⟩:=Vals.get (i:=i) (x:=x) t (by simpa using e);exact⟨u,by simpa using h1,h2⟩
theorem Vals.set{x:V}{u:aa}(r:RelV x u):∀{xs:List V}{us:List aa}(i:Nat),Vals xs us->Vals (xs.set i x) (us.set i u)
 |_,_,_,.nil=>.nil
 |_,_,0,.cons _ t=>.cons r t
 |_,_,i + 1,.cons q t=>.cons q (Vals.set r i t)
theorem Vals.append:∀{xs ys:List V}{us ws:List aa},Vals xs us->Vals ys ws->Vals (xs++ys) (us++ws)
 |_,_,_,_,.nil,s=>s
 |_,_,_,_,.cons r t,s=>.cons r (Vals.append t s)
theorem Vals.none_of:∀{xs:List V}{us:List aa}{i:Nat},Vals xs us->xs[i]?=none->us[i]?=none:=fun {xs us i} r e=>by have h1:=r.length;have h2:xs.length<=i:=List.getElem?_eq_none_iff.mp e;exact List.getElem?_eq_none_iff.mpr (by lia)
def akV:Option V->Option aa->Prop
 |some v,some u=>RelV v u
 |none,none=>True
 |_,_=>False
def KV{κ:Type}:List (κ×V)->List (κ×aa)->Prop:=Paired fun(p:κ×V) (q:κ×aa)=>p.1=q.1/\RelV p.2 q.2
def kV:Qn->V
 | .inl i=>.int i
 | .inr x=>.str x
inductive HO where
 /-- a list -/
 |lst (xs:List V)
 /-- a tuple (never changes) -/
 |tup (xs:List V)
 /-- a dict whose keys are ints and texts;one whose keys are tuples of ints and texts (the empty one is both) -/
 |dK (kvs:List (Qn×V))|dT (kvs:List (List Qn×V))
 /-- a set of ints: its members,its size -/
 |set (S:Int->Bool) (n:Nat)
 /-- an instance of the class at C,its dict at dx,its attributes -/
 |ins (C dx:ab) (fs:List (Str×V))
 /-- the dict of the instance at x -/
 |own (x:ab)
 /-- the dict of an exception -/
 |xd (fs:List (Str×V))
 /-- a bound method,f of x -/
 |met (f x:ab)
 /-- a range object lo,lo + 1,.. below hi -/
 |rng (lo hi:Int)
 /-- a thing that is known to the object (the script;a dict while a loop walks it): read,never written while it is so -/
 |CT (o:Obj) (u:HO)
 /-- a code object's table -/
 |tbl (ps:Array aa)
 |tab (q:Str)|Qo (q:Str)
 /-- any other thing,by what is true of its one object (a def of one's own: aae a S n:=HO.ext fun h=>..) -/
 |ext (φ:Heap->Prop)
abbrev Hp:=ab->Option HO
def upd(H:Hp)(a:ab)(o:HO):Hp:=fun b=>if b=a then some o else H b
theorem bA{H:Hp}{a:ab}{o:HO}:upd H a o a=some o:=by unfold upd;rw[if_pos rfl]
theorem aZ{H:Hp}{a b:ab}{o:HO}(h:b≠a):upd H a o b=H b:=by unfold upd;rw[if_neg h]
theorem aY{H:Hp}{a b:ab}{o:HO}(h:H a=some o)(h':H b=none):a≠b:=by intro e;subst e;rw[h]at h';cases h'
section
variable(P:aE)(w:ay)
def fD(H:Hp)(h:Heap)(a:ab):HO->Prop
 | .lst xs=>xs.length<=sizeLine/\∃(its:List aa) (n:Nat),Vals xs its/\h.get? a=some { cls:=.type "list",data:=.seq its.toArray n }
 | .tup xs=>xs.length<=sizeLine/\∃its:List aa,Vals xs its/\IsTup h a its.toArray
 | .dK kvs=>kvs.length<=sizeLine/\(a == f7)=false/\∃vs,KV kvs vs/\h.DictOf (Yo P w) a vs
 | .dT kvs=>kvs.length<=sizeLine/\(a == f7)=false/\∃xs:List (List Qn×ab×aa),
   Paired (fun(p:List Qn×V) (q:List Qn×ab×aa)=>p.1=q.1/\H q.2.1=some (.tup (p.1.map kV))/\RelV p.2 q.2.2) kvs xs /\
   ∃o es ep,h.get? a=some o/\o.ExactDict/\o.data=.dict es ep/\es.toList=xs.map (entryOfKey (mS (Yo P w)))/\(xs.map (·.1)).Nodup
 | .set S n=>h.SetOf (cb P w) a S n
 | .ins C dx fs=>H dx=some (.own a)/\fs.length<=1000/\dx≠a/\h.get? a=some (PySem.W.instObj C dx) /\
   ∃mA,h.Ns1 dx mA/\(∀f,akV (fs.lookup f) (mA f))/\PySem.Within mA (fs.map (·.1))
 | .own _=>∃o,h.get? a=some o
 | .xd fs=>∃mA,h.Ns1 a mA/\∀f,akV (fs.lookup f) (mA f)
 | .rng lo hi=>∃t u v,h.get? a=some { cls:=.type "range",data:=.fields #[.int lo t,.int hi u,.int 1 v] }
 | .CT o u=>h.get? a=some o/\fD H h a u
 | .tbl ps=>h.get? a=some { cls:=.none,data:=.fields ps }
 | .tab q=>∃ps:Array aa,h.get? a=some { cls:=.none,data:=.fields ps }/\TriplesOk ps.toList/\∀pos v,kQ pos ps.toList=some v->∃c,v=.ref c/\H c=some (.Qo q)
 | .Qo q=>∃o vs t,h.get? a=some o/\o.data=.fields vs/\vs[1]?=some (.str q t)
 | .met f x=>h.get? a=some (oD (.ref f) (.ref x))
 | .ext φ=>φ h/\(∃o,h.get? a=some o)/\∀h1 h2:Heap,φ h1->(∀o,h1.get? a=some o->h2.get? a=some o)->φ h2
def yg(H:Hp)(h:Heap):Prop:=∀a o,H a=some o->fD P w H h a o
end
section
variable{P:aE}{w:ay}{H H':Hp}{h h':Heap}{a:ab}{o:HO}
theorem fD.lt(x:fD P w H h a o):a < h.objs.size:=by
 cases o with
 |lst xs=>obtain⟨_,_,_,_,e⟩:=x;exact bg e
 |tup xs=>obtain⟨_,_,_,p⟩:=x;exact p.lt
 |dK kvs=>obtain⟨_,_,_,_,o,_,_,e,_⟩:=x;exact bg e
 |dT kvs=>obtain⟨_,_,_,_,o,_,_,e,_⟩:=x;exact bg e
 |set S n=>obtain⟨o,_,_,_,e,_⟩:=x;exact bg e
 |ins C dx fs=>obtain⟨_,_,_,e,_⟩:=x;exact bg e
 |own y=>obtain⟨_,e⟩:=x;exact bg e
 |xd fs=>obtain⟨_,⟨_,_,_,e,_⟩,_⟩:=x;exact bg e
 |rng lo hi=>obtain⟨_,_,_,e⟩:=x;exact bg e
 |CT ob u=>obtain⟨e,_⟩:=x;exact bg e
 |tbl ps=>exact bg (show h.get? a=some _ from x)
 |tab q=>obtain⟨_,e,_⟩:=x;exact bg e
 |Qo q=>obtain⟨_,_,_,e,_⟩:=x;exact bg e
 |met f y=>exact bg (show h.get? a=some _ from x)
 |ext φ=>obtain⟨_,⟨_,e⟩,_⟩:=x;exact bg e
theorem Paired.aii{α β:Type}{F G:α->β->Prop}:∀{l₁:List α}{l₂:List β},Paired F l₁ l₂->(∀a b,F a b->G a b)->Paired G l₁ l₂
 |_,_,.nil,_=>.nil
 |_,_,.cons r t,f=>.cons (f _ _ r) (Paired.aii t f)
theorem fD.stay(x:fD P w H h a o)(k:∀b u,(b=a∨H b=some (.own a))->h.get? b=some u->h'.get? b=some u)
  (ho:∀b,H b=some (.own a)->H' b=some (.own a)) (ht:∀b xs,H b=some (.tup xs)->H' b=some (.tup xs)) (aij:∀b q,H b=some (.Qo q)->H' b=some (.Qo q)):fD P w H' h' a o:=by
 induction o with
 |lst xs=>obtain⟨z,its,n,r,e⟩:=x;exact⟨z,its,n,r,k _ _ (.inl rfl) e⟩
 |tup xs=>obtain⟨z,its,r,ob,e,c⟩:=x;exact⟨z,its,r,ob,k _ _ (.inl rfl) e,c⟩
 |dK kvs=>obtain⟨z,y,vs,r,ob,es,ep,e,c⟩:=x;exact⟨z,y,vs,r,ob,es,ep,k _ _ (.inl rfl) e,c⟩
 |dT kvs =>
  obtain⟨z,y,xs,r,ob,es,ep,e,c⟩:=x;exact⟨z,y,xs,Paired.aii r fun p q z=>⟨z.1,ht _ _ z.2.1,z.2.2⟩,ob,es,ep,k _ _ (.inl rfl) e,c⟩
 |set S n=>obtain⟨ob,es,ep,t,e,c⟩:=x;exact⟨ob,es,ep,t,k _ _ (.inl rfl) e,c⟩
 |ins C dx fs =>
  obtain⟨d,z,ne,e,mA,⟨od,es,ep,e2,c⟩,r⟩:=x;exact⟨ho _ d,z,ne,k _ _ (.inl rfl) e,mA,⟨od,es,ep,k _ _ (.inr d) e2,c⟩,r⟩
 |own y=>obtain⟨ob,e⟩:=x;exact⟨ob,k _ _ (.inl rfl) e⟩
 |xd fs=>obtain⟨mA,⟨od,es,ep,e,c⟩,r⟩:=x;exact⟨mA,⟨od,es,ep,k _ _ (.inl rfl) e,c⟩,r⟩
 |rng lo hi=>obtain⟨t,u,v,e⟩:=x;exact⟨t,u,v,k _ _ (.inl rfl) e⟩
 |CT ob u ih=>obtain⟨e,q⟩:=x;exact⟨k _ _ (.inl rfl) e,ih q⟩
 |tbl ps =>
  have e:h.get? a=some { cls:=.none,data:=.fields ps }:=x;show h'.get? a=some { cls:=.none,data:=.fields ps };exact k a _ (.inl rfl) e
 |tab q =>
  obtain⟨ps,e,t,c⟩:=x;exact⟨ps,k _ _ (.inl rfl) e,t,fun pos v z=>let ⟨c',e1,e2⟩:=c pos v z;⟨c',e1,aij _ _ e2⟩⟩
 |Qo q=>obtain⟨o,vs,t,e,r⟩:=x;exact⟨o,vs,t,k _ _ (.inl rfl) e,r⟩
 |met f y =>
  have e:h.get? a=some (oD (.ref f) (.ref y)):=x;show h'.get? a=some (oD (.ref f) (.ref y));exact k a _ (.inl rfl) e
 |ext φ=>obtain⟨p,⟨o,e⟩,st⟩:=x;exact⟨st _ _ p fun o q=>k _ _ (.inl rfl) q,⟨o,k _ _ (.inl rfl) e⟩,st⟩
theorem yg.lt(x:yg P w H h)(e:H a=some o):a < h.objs.size:=(x a o e).lt
theorem yg.fresh(x:yg P w H h)(e:h.objs.size<=a):H a=none:=by
 cases q:H a with
 |none=>rfl
 |some u=>exact absurd (dP (x.lt q) e) (f9 _)
theorem yg.kept(x:yg P w H h)(k:∀b u,h.get? b=some u->h'.get? b=some u):yg P w H h':=fun a o e =>
 (x a o e).stay (fun b u _ q=>k b u q) (fun _ q=>q) (fun _ _ q=>q) fun _ _ q=>q
theorem yg.laid(x:yg P w H h)(k:∀b u,h.get? b=some u->h'.get? b=some u)(hp:h.objs.size<=a)(new:fD P w (upd H a o) h' a o):yg P w (upd H a o) h':=fun b u e=>by
 have hn:=x.fresh hp;by_cases hb:b=a
 ·subst hb;rw[bA]at e;cases e;exact new
 ·rw[aZ hb]at e;exact(x b u e).stay (fun c v _ q=>k c v q) (fun c q=>by rw[aZ (aY q hn)];exact q) (fun c xs q=>by rw[aZ (aY q hn)];exact q) fun c xs q=>by rw[aZ (aY q hn)];exact q
end
def Rd(H:Hp)(a:ab)(u:HO):Prop:=H a=some u∨∃o,H a=some (.CT o u)
theorem Rd.ok{P:aE}{w:ay}{H:Hp}{h:Heap}{a:ab}{u:HO}(r:Rd H a u)(x:yg P w H h):fD P w H h a u:=by
 rcases r with r|⟨o,r⟩
 ·exact x a u r
 ·obtain⟨_,q⟩:=x a _ r;exact q
def Mut:Option HO->Prop
 |some (.lst _)=>True
 |some (.dK _)=>True
 |some (.dT _)=>True
 |some (.set _ _)=>True
 |some (.ins _ _ _)=>True
 |some (.ext _)=>True
 |some (.tab _)=>True
 |_=>False
section
variable{P:aE}{w:ay}{H:Hp}{h h':Heap}{x e:ab}{o':HO}
theorem yg.write(ok:yg P w H h)(mu:Mut (H x))(he:e=x∨H e=some (.own x))(k:∀b u,b≠e->h.get? b=some u->h'.get? b=some u)(heo:∃u,h'.get? e=some u)
  (new:fD P w (upd H x o') h' x o'):yg P w (upd H x o') h':=fun b u q=>by
 have akW:∀c y,H c=some (.own y)->c≠x:=fun c y r z=>by subst z;rw[r]at mu;exact mu
 have anJ:∀c xs,H c=some (.tup xs)->c≠x:=fun c xs r z=>by subst z;rw[r]at mu;exact mu
 have anK:∀c q,H c=some (.Qo q)->c≠x:=fun c q r z=>by subst z;rw[r]at mu;exact mu
 by_cases hb:b=x
 ·subst hb;rw[bA]at q;cases q;exact new
 ·rw[aZ hb]at q;by_cases hbe:b=e
  ·have q':H b=some (.own x):=by
    rcases he with z|z
    ·exact absurd (hbe.trans z) hb
    ·rw[hbe];exact z
   rw[q]at q';cases q';obtain⟨v,hv⟩:=heo;exact⟨v,by rw[hbe];exact hv⟩
  ·refine(ok b u q).stay (fun c v hc r=>k c v ?_ r) (fun c r=>by rw[aZ (akW c b r)];exact r) (fun c xs r=>by rw[aZ (anJ c xs r)];exact r) fun c q r=>by rw[aZ (anK c q r)];exact r
   rcases hc with rfl|hc
   ·exact hbe
   ·rintro rfl;rcases he with z|z
    ·exact akW c b hc z
    ·rw[hc]at z;cases z;exact hb rfl
end
structure Un (fs ex:List ab)(H H':Hp)(h h':Heap):Prop where
 keep:∀b o,h.get? b=some o->H b=none->b∉fs->b∉ex->h'.get? b=some o
 slot:∀b o,h.get? b=some o->H b=none->b∈fs->b∉ex->∃sl,h'.get? b=some { o with slots:=sl }
 free:∀b o,h.get? b=some o->H b=none->b∉ex->H' b=none
 there:∀b o,h.get? b=some o->b∉ex->∃o',h'.get? b=some o'
 tups:∀b xs,H b=some (.tup xs)->H' b=some (.tup xs)
 CV:∀b o u,H b=some (.CT o u)->H' b=some (.CT o u)
 GC:∀b ps,H b=some (.tbl ps)->∃more,H' b=some (.tbl (ps++more))
section
variable{fs fs' ex ex':List ab}{H H1 H2:Hp}{h h1 h2 h':Heap}{a x e:ab}{o:HO}
theorem Un.any(u:Un fs ex H H1 h h1){b:ab}{ob:Obj}(q:h.get? b=some ob)(n:H b=none)(hx:b∉ex):∃sl,h1.get? b=some { ob with slots:=sl }:=by
 by_cases hb:b∈fs
 ·exact u.slot b ob q n hb hx
 ·exact⟨ob.slots,u.keep b ob q n hb hx⟩
theorem Un.kept(k:∀b u,h.get? b=some u->h'.get? b=some u):Un fs ex H H h h' :=
 ⟨fun b ob q _ _ _=>k b ob q,fun b ob q _ _ _=>⟨ob.slots,k b ob q⟩,fun _ _ _ n _=>n,fun b ob q _=>⟨ob,k b ob q⟩,fun _ _ q=>q,fun _ _ _ q=>q,fun _ ps q=>⟨#[],by rw[q];simp⟩⟩
theorem Un.refl:Un fs ex H H h h:=Un.kept fun _ _ q=>q
theorem Un.laid(k:∀b u,h.get? b=some u->h'.get? b=some u)(hp:h.objs.size<=a)(hn:H a=none):Un fs ex H (upd H a o) h h' where
 keep:=fun b u q _ _ _=>k b u q
 slot:=fun b u q _ _ _=>⟨u.slots,k b u q⟩
 free:=fun b u q n _=>by rw[aZ (bS (dP (bg q) hp))];exact n
 there:=fun b u q _=>⟨u,k b u q⟩
 tups:=fun b xs q=>by rw[aZ (aY q hn)];exact q
 CV:=fun b u xs q=>by rw[aZ (aY q hn)];exact q
 GC:=fun b ps q=>⟨#[],by rw[aZ (aY q hn),q];simp⟩
theorem Un.write(mu:Mut (H x))(he:e=x∨H e=some (.own x))(k:∀b u,b≠e->h.get? b=some u->h'.get? b=some u)(heo:∃u,h'.get? e=some u):Un fs ex H (upd H x o) h h':=by
 have hx:∀b,H b=none->b≠x:=fun b n z=>by subst z;rw[n]at mu;exact mu
 have hb:∀b,H b=none->b≠e:=fun b n z=>by
  subst z;rcases he with r|r
  ·exact hx b n r
  ·rw[n]at r;cases r
 have hm:∀b u,H b=some u->¬Mut (some u)->b≠x:=fun b u q nm z=>by subst z;rw[q]at mu;exact nm mu
 refine⟨fun b u q n _ _=>k b u (hb b n) q,fun b u q n _ _=>⟨u.slots,k b u (hb b n) q⟩,fun b u q n _=>by rw[aZ (hx b n)];exact n,fun b u q _=>?_,
  fun b xs q=>by rw[aZ (hm b _ q fun z=>z)];exact q,fun b u xs q=>by rw[aZ (hm b _ q fun z=>z)];exact q,fun b ps q=>⟨#[],by rw[aZ (hm b _ q fun z=>z),q];simp⟩⟩
 by_cases hbe:b=e
 ·subst hbe;exact heo
 ·exact⟨u,k b u hbe q⟩
end
def trk(h:Heap)(H:Hp):List ab:=(bu h.objs.size).filter fun a=>(H a).isSome
def Ku(h:Heap)(H:Hp):Heap:=i9 h (trk h H)
theorem aaf(h:Heap)(H:Hp):(Ku h H).objs.size=h.objs.size:=PySem.W.hideAll_size _ _
theorem abA{h:Heap}{H:Hp}{b:ab}{o:Obj}(e:h.get? b=some o)(n:H b=none):(Ku h H).get? b=some o :=
 r_ _ e fun hm=>by have q:(H b).isSome=true:=(eQ.mp hm).2;rw[n]at q;simp at q
theorem afj{h:Heap}{H:Hp}{b:ab}{o:Obj}(e:(Ku h H).get? b=some o):h.get? b=some o/\H b=none:=by
 have e':h.get? b=some o:=PySem.W.of_hideAll (trk h H) e;refine⟨e',?_⟩;cases q:H b with
 |none=>rfl
 |some x =>
  have hm:b∈trk h H:=eQ.mpr ⟨ef.mpr (bg e'),by simp[q]⟩;have z:(Ku h H).get? b=none:=PySem.W.hideAll_none (trk h H) hm;rw[z]at e;cases e
def Yp(g h:Heap)(L:ab):List (ab×Obj):=(bu h.objs.size).filterMap fun a=>if a=L∨(g.get? a).isSome=true then none else (h.get? a).map fun o=>(a,o)
theorem Qp{g h:Heap}{L a:ab}{o:Obj}(h1:a≠L)(h2:g.get? a=none)(h3:h.get? a=some o):(a,o)∈Yp g h L :=
 iX.mpr ⟨a,ef.mpr (bg h3),by simp[h1,h2,h3]⟩
def rest(g h:Heap)(L d:ab):List (ab×Obj):=(Yp g h L).filter fun p=>decide (p.1≠d)
theorem CW{g h:Heap}{L d a:ab}{o:Obj}(h1:a≠L)(h2:g.get? a=none)(h3:h.get? a=some o)(h4:a≠d):(a,o)∈rest g h L d :=
 eQ.mpr ⟨Qp h1 h2 h3,decide_eq_true h4⟩
structure Mod (K:ah)(mg:Str->Option aa)(base:Heap):Prop where
 kin:K.In base
 glob:base.Ns bX mg
 blt:∃mb,base.Ns builtinsNs mb/\∀x:Str,x≠"__name__"->mb x=ic x
 nolimit:base.NoLimit
 bm:∃bm ob,mg "__builtins__"=some (.ref bm)/\bm≠builtinsNs/\base.get? bm=some ob/\ob.cls=.type "module"/\ob.dict=some builtinsNs/\ob.data=.plain
structure Cx where
 prog:aE
 w:ay
 K:ah
 mg:Str->Option aa
 base:Heap
 A:a8
 N:List Str
 s₀:ae
 H₀:Hp
 env:Env
 outer:List Env
 stack:List Env
 ex:List ab
 fn:Str->Bool
 calm:Bool
 pn:List (ab×Obj)
 xe:aa->ae->Prop
def pA(l:List Env):List ab:=l.filterMap (·.frame)
abbrev Cx.fs(X:Cx):List ab:=pA X.outer
def Kv(sc:Scope)(x:Str):Prop:=sc.names.lookup x=some .local∨sc.names.lookup x=some .cell∨sc.names.lookup x=some .free
def Kw(sc:Scope)(x:Str):Prop:=sc.names.lookup x=some .local∨sc.names.lookup x=some .cell
def anL(env:Env)(h:Heap)(m:Str->Option aa)(x:Str)(u:aa):Prop :=
 (env.kindOf x=some .local/\m x=some u)∨((env.kindOf x=some .cell∨env.kindOf x=some .free)/\∃c,env.cells.lookup x=some c/\h.IsCell c (some u))
structure Cx.Ok (X:Cx):Prop where
 mod:Mod X.K X.mg X.base
 kind:X.env.scope.kind=.function
 glob:X.env.globals=bX
 blt:X.env.builtins=builtinsNs
 above:X.s₀.heap.objs.size<=X.env.locals
 inj:∀x y c,X.env.cells.lookup x=some c->X.env.cells.lookup y=some c->x=y
 has:∀x,(X.env.kindOf x=some .cell∨X.env.kindOf x=some .free)->∃c,X.env.cells.lookup x=some c
 cab:∀x c,X.fn x=true->X.env.cells.lookup x=some c->X.s₀.heap.objs.size<=c
 hd:X.calm=true->X.A.handled=none
 frames:X.A.frames=some X.stack
 stk:X.stack=X.outer∨(X.stack=X.env::X.outer/\X.env.frame=some X.env.locals)
 exf:∀b∈X.ex,b≠X.env.locals/\∀x c,X.env.cells.lookup x=some c->c≠b
 bs:∀b o,X.base.get? b=some o->X.s₀.heap.get? b=some o/\X.H₀ b=none
 bsz:X.base.objs.size<=X.s₀.heap.objs.size
 aag:∀b o,X.base.get? b=some o->b∉X.ex
 afl:∀b∈X.ex,b∉X.fs
 CZ:X.s₀.heap.FunFrames X.base X.outer
 frf:∀b∈X.fs,X.H₀ b=none
structure Inv (X:Cx)(pins:List (ab×Obj))(σ:List (Option V))(H:Hp)(s:ae):Prop where
 ok:X.Ok
 os:s.os=X.s₀.os
 bare:kc s.gens
 base:Un X.fs X.ex X.H₀ H X.s₀.heap s.heap
 loc:∃m,s.heap.Ns X.env.locals m/\∀(i:Nat) (x:Str) (v:V),X.N[i]?=some x->σ[i]?=some (some v)->Kv X.env.scope x->∃u,RelV v u/\anL X.env s.heap m x u
 cell:∀x c,X.env.cells.lookup x=some c->∃v,s.heap.IsCell c v
 free:H X.env.locals=none
 rm:∀x c,X.env.cells.lookup x=some c->H c=none
 pin:∀p∈X.pn++pins,s.heap.get? p.1=some p.2/\H p.1=none/\p.1≠X.env.locals/\p.1∉X.fs/\∀v,p.2.data≠.cell v
 hok:yg X.prog X.w H s.heap
 len:σ.length=X.N.length
section
variable{X:Cx}{pins:List (ab×Obj)}{σ:List (Option V)}{H H':Hp}{s:ae}{h':Heap}
theorem Cx.Ok.anM(ok:X.Ok){b:ab}{o:Obj}(e:X.base.get? b=some o):b∉X.fs:=fun hb=>by have:=(ok.CZ.mem hb).1;rw[e]at this;cases this
theorem Inv.bs(I:Inv X pins σ H s):∀b o,X.base.get? b=some o->s.heap.get? b=some o/\H b=none:=fun b o e =>
 ⟨I.base.keep b o (I.ok.bs b o e).1 (I.ok.bs b o e).2 (I.ok.anM e) (I.ok.aag b o e),I.base.free b o (I.ok.bs b o e).1 (I.ok.bs b o e).2 (I.ok.aag b o e)⟩
theorem Inv.bk(I:Inv X pins σ H s):∀b o,X.base.get? b=some o->s.heap.get? b=some o:=fun b o e=>(I.bs b o e).1
theorem Inv.mod(I:Inv X pins σ H s):Mod X.K X.mg X.base:=I.ok.mod
theorem Inv.Vu(I:Inv X pins σ H s):X.K.In s.heap:=I.ok.mod.kin.keeps I.bk
theorem Inv.lt(I:Inv X pins σ H s):X.env.locals < s.heap.objs.size:=let ⟨_,hn,_⟩:=I.loc;hn.lt
theorem Inv.sz(I:Inv X pins σ H s):X.s₀.heap.objs.size<=s.heap.objs.size:=cx I.ok.above (fv I.lt)
theorem Inv.abB(I:Inv X pins σ H s){a:ab}(h:s.heap.objs.size<=a):a∉X.fs:=fun hb=>by obtain⟨_,o,ho,_⟩:=I.ok.CZ.mem hb;exact absurd (dP (bg ho) (cx I.sz h)) (f9 _)
theorem Inv.cne(I:Inv X pins σ H s):∀x c,X.env.cells.lookup x=some c->c≠X.env.locals:=fun x c e z=>by obtain⟨v,o,ho,hd⟩:=I.cell x c e;obtain⟨m,⟨o',es,ep,ho',hd',_⟩,_⟩:=I.loc;rw[z,ho']at ho;cases ho;rw[hd']at hd;cases hd
theorem Inv.CZ(I:Inv X pins σ H s):s.heap.FunFrames X.base X.outer:=by
 have all:∀(l:List Env),(∀b∈pA l,b∈X.fs)->X.s₀.heap.FunFrames X.base l->s.heap.FunFrames X.base l:=by
  intro l
  induction l with
  |nil=>intro _ _;trivial
  |cons env r ih =>
   intro hs hl;obtain⟨hk,⟨L,o,hf,hn,ho,hd⟩,hr⟩:=hl;have hL:L∈X.fs:=hs L (by unfold pA;rw[kR,hf];exact df);obtain⟨sl,e⟩:=I.base.slot L o ho (I.ok.frf L hL) hL fun z=>I.ok.afl L z hL;exact⟨hk,⟨L,_,hf,hn,e,hd⟩,ih (fun b hb=>hs b (by unfold pA;rw[kR,hf];exact dt _ hb)) hr⟩
 exact all X.outer (fun _ hb=>hb) I.ok.CZ
theorem Inv.stack(I:Inv X pins σ H s):s.heap.FunFrames X.base X.stack:=by
 rcases I.ok.stk with e|⟨e,hf⟩
 ·rw[e];exact I.CZ
 ·rw[e];obtain⟨m,hn,_⟩:=I.loc;refine .cons (by rw[I.ok.kind];decide) hf hn ?_ I.CZ;exact Heap.get?_none_of_le (cx I.ok.bsz I.ok.above)
theorem Inv.uX(I:Inv X pins σ H s):∀b∈pA X.stack,b∈X.env.locals::X.fs:=fun b hb=>by
 rcases I.ok.stk with e|⟨e,hf⟩
 ·rw[e]at hb;exact dt _ hb
 ·rw[e]at hb;unfold pA at hb;rw[kR,hf]at hb;exact hb
theorem Inv.Cj(I:Inv X pins σ H s):∀b∈pA X.stack,H b=none:=fun b hb=>by
 rcases bz.mp (I.uX b hb) with e|hb
 ·rw[e];exact I.free
 ·obtain⟨_,o,ho,_⟩:=I.ok.CZ.mem hb;exact I.base.free b o ho (I.ok.frf b hb) fun z=>I.ok.afl b z hb
theorem Inv.step{g':Array kS}{t':Nat}{d':Drawn}{ch:List ab}(I:Inv X pins σ H s)
  (hch:∀b∈ch,(b∈X.ex∨X.s₀.heap.objs.size<=b)/\b≠X.env.locals/\(∀x c,X.env.cells.lookup x=some c->c≠b)/\∀p∈X.pn++pins,p.1≠b)
  (keep:∀b o,b≠X.env.locals->b∉X.fs->b∉ch->s.heap.get? b=some o->H b=none->h'.get? b=some o)
  (slot:∀b o,b≠X.env.locals->b∈X.fs->b∉ch->s.heap.get? b=some o->H b=none->∃sl,h'.get? b=some { o with slots:=sl }) (free:∀b o,b∉ch->s.heap.get? b=some o->H b=none->H' b=none)
  (there:∀b o,b∉ch->s.heap.get? b=some o->∃o',h'.get? b=some o')
  (tups:∀b xs,H b=some (.tup xs)->H' b=some (.tup xs)) (CV:∀b o u,H b=some (.CT o u)->H' b=some (.CT o u)) (GC:∀b ps,H b=some (.tbl ps)->∃more,H' b=some (.tbl (ps++more)))
  (ns:∀m,s.heap.Ns X.env.locals m->h'.Ns X.env.locals m) (hok:yg X.prog X.w H' h') (hg:kc g') :
  Inv X pins σ H' { s with heap:=h',gens:=g',drawn:=d',toks:=t' }:=by
 have neL:∀b o,X.s₀.heap.get? b=some o->b≠X.env.locals:=fun b o e=>bS (dP (bg e) I.ok.above);have neC:∀b o,X.s₀.heap.get? b=some o->b∉X.ex->b∉ch:=fun b o e hx hb=>by
  rcases(hch b hb).1 with z|z
  ·exact hx z
  ·exact absurd (dP (bg e) z) (f9 _)
 have cellK:∀x c,X.env.cells.lookup x=some c->∀v,s.heap.IsCell c v->h'.IsCell c v:=fun x c e v ⟨o,ho,hd⟩=>by
  have nch:c∉ch:=fun z=>(hch c z).2.2.1 x c e rfl;by_cases hc:c∈X.fs
  ·obtain⟨sl,q⟩:=slot c o (I.cne x c e) hc nch ho (I.rm x c e);exact⟨_,q,hd⟩
  ·exact⟨o,keep c o (I.cne x c e) hc nch ho (I.rm x c e),hd⟩
 refine⟨I.ok,I.os,hg,⟨fun b o e n hb hx=>?_,fun b o e n hb hx=>?_,fun b o e n hx=>?_,fun b o e hx=>?_,fun b xs e=>tups b xs (I.base.tups b xs e),fun b o xs e=>CV b o xs (I.base.CV b o xs e),fun b ps e=>?_⟩,?_,fun x c e=>?_,?_,fun x c e=>?_,fun p hp=>?_,hok,I.len⟩
 ·exact keep b o (neL b o e) hb (neC b o e hx) (I.base.keep b o e n hb hx) (I.base.free b o e n hx)
 ·obtain⟨sl,e1⟩:=I.base.slot b o e n hb hx;obtain⟨sl',e2⟩:=slot b _ (neL b o e) hb (neC b o e hx) e1 (I.base.free b o e n hx);exact⟨sl',e2⟩
 ·obtain⟨o',e1⟩:=I.base.there b o e hx;exact free b o' (neC b o e hx) e1 (I.base.free b o e n hx)
 ·obtain⟨o',e1⟩:=I.base.there b o e hx;exact there b o' (neC b o e hx) e1
 ·obtain⟨m1,e1⟩:=I.base.GC b ps e;obtain⟨m2,e2⟩:=GC b _ e1;exact⟨m1++m2,by rw[e2,Array.append_assoc]⟩
 ·obtain⟨m,hn,hl⟩:=I.loc;refine⟨m,ns m hn,fun i x v e1 e2 e3=>?_⟩;obtain⟨u,r,l⟩:=hl i x v e1 e2 e3;refine⟨u,r,?_⟩;rcases l with l|⟨k,c,e,z⟩
  ·exact .inl l
  ·exact .inr ⟨k,c,e,cellK x c e _ z⟩
 ·obtain⟨v,z⟩:=I.cell x c e;exact⟨v,cellK x c e v z⟩
 ·obtain⟨m,⟨o,_,_,ho,_⟩,_⟩:=I.loc;exact free _ o (fun z=>(hch _ z).2.1 rfl) ho I.free
 ·obtain⟨v,o,ho,hd⟩:=I.cell x c e;exact free c o (fun z=>(hch c z).2.2.1 x c e rfl) ho (I.rm x c e)
 ·obtain⟨e,n,ne,nf,d⟩:=I.pin p hp;have nch:p.1∉ch:=fun z=>(hch p.1 z).2.2.2 p hp rfl;exact⟨keep p.1 p.2 ne nf nch e n,free p.1 p.2 nch e n,ne,nf,d⟩
theorem Inv.un{t':Nat}(I:Inv X pins σ H s)(u:Un X.fs [] H H' s.heap h')(hok:yg X.prog X.w H' h'):Inv X pins σ H' { s with heap:=h',toks:=t' }:=by
 obtain⟨m,⟨o,es,ep,ho,r⟩,_⟩:=id I.loc;obtain⟨sl,hL⟩:=u.any ho I.free (by simp);exact I.step (g':=s.gens) (d':=s.drawn) (ch:=[]) (fun _ z=>nomatch z) (fun b o _ hb _ e n=>u.keep b o e n hb (by simp)) (fun b o _ hb _ e n=>u.slot b o e n hb (by simp)) (fun b o _ e n=>u.free b o e n (by simp)) (fun b o _ e=>u.there b o e (by simp)) u.tups u.CV u.GC (fun m' hm=>by
  obtain⟨o',es',ep',ho',r'⟩:=hm;rw[ho]at ho';cases ho';exact⟨_,es',ep',hL,r'⟩) hok I.bare
theorem Inv.call{g':Array kS}{t':Nat}{d':Drawn}{ch:List ab}(I:Inv X pins σ H s)(u:Un (pA X.stack) ch H H' s.heap h')(hok:yg X.prog X.w H' h')(hg:kc g')
  (hch:∀b∈ch,(b∈X.ex∨X.s₀.heap.objs.size<=b)/\b≠X.env.locals/\(∀x c,X.env.cells.lookup x=some c->c≠b)/\∀p∈X.pn++pins,p.1≠b) :
  Inv X pins σ H' { s with heap:=h',gens:=g',drawn:=d',toks:=t' }:=by
 obtain⟨m,⟨o,es,ep,ho,r⟩,_⟩:=id I.loc;obtain⟨sl,hL⟩:=u.any ho I.free fun z=>(hch _ z).2.1 rfl;exact I.step (ch:=ch) hch (fun b o hL hb hc e n=>u.keep b o e n (fun z=>(bz.mp (I.uX b z)).elim hL hb) hc) (fun b o _ _ hc e n=>u.any e n hc) (fun b o hc e n=>u.free b o e n hc) (fun b o hc e=>u.there b o e hc) u.tups u.CV u.GC (fun m' hm=>by
  obtain⟨o',es',ep',ho',r'⟩:=hm;rw[ho]at ho';cases ho';exact⟨_,es',ep',hL,r'⟩) hok hg
theorem Inv.turned{t':Nat}{it:ab}(I:Inv X pins σ H s)(k:∀b o,b≠it->s.heap.get? b=some o->h'.get? b=some o)(hn:H it=none)(hL:it≠X.env.locals)
  (h1:it∈X.ex∨X.s₀.heap.objs.size<=it) (h2:∀x c,X.env.cells.lookup x=some c->c≠it) (h3:∀p∈X.pn++pins,p.1≠it):Inv X pins σ H { s with heap:=h',toks:=t' }:=by
 have nit:∀b u,H b=some u->b≠it:=fun b u e z=>by rw[z,hn]at e;cases e
 refine I.step (g':=s.gens) (d':=s.drawn) (ch:=[it]) (fun b hb=>?_) (fun b o _ _ hc e _=>k b o (fun z=>hc (by simp[z])) e) (fun b o _ _ hc e _=>⟨o.slots,k b o (fun z=>hc (by simp[z])) e⟩) (fun _ _ _ _ n=>n)
  (fun b o hc e=>⟨o,k b o (fun z=>hc (by simp[z])) e⟩) (fun _ _ e=>e) (fun _ _ _ e=>e) (fun b ps e=>⟨#[],by rw[e];simp⟩) (fun m hm=>?_) (fun b u e=>?_) I.bare
 ·have e:b=it:=by simpa using hb
  subst e;exact⟨h1,hL,h2,h3⟩
 ·obtain⟨o,es,ep,ho,r⟩:=hm;exact⟨o,es,ep,k _ o (dm hL) ho,r⟩
 ·refine(I.hok b u e).stay (fun c v hc q=>k c v ?_ q) (fun _ q=>q) (fun _ _ q=>q) fun _ _ q=>q;rcases hc with z|z
  ·rw[z];exact nit b u e
  ·exact nit c _ z
theorem Inv.tok(I:Inv X pins σ H s)(t:Nat):Inv X pins σ H { s with toks:=t }:=I.un (h':=s.heap) (t':=t) Un.refl I.hok
theorem Inv.kept{t':Nat}(I:Inv X pins σ H s)(k:∀b u,s.heap.get? b=some u->h'.get? b=some u):Inv X pins σ H { s with heap:=h',toks:=t' }:=I.un (Un.kept k) (I.hok.kept k)
theorem Inv.laid{a:ab}{o:HO}{t':Nat}(I:Inv X pins σ H s)(k:∀b u,s.heap.get? b=some u->h'.get? b=some u)(hp:s.heap.objs.size<=a)(new:fD X.prog X.w (upd H a o) h' a o) :
  Inv X pins σ (upd H a o) { s with heap:=h',toks:=t' }:=I.un (Un.laid k hp (I.hok.fresh hp)) (I.hok.laid k hp new)
theorem Inv.write{x e:ab}{o:HO}{t':Nat}(I:Inv X pins σ H s)(mu:Mut (H x))(he:e=x∨H e=some (.own x))(k:∀b u,b≠e->s.heap.get? b=some u->h'.get? b=some u)(heo:∃u,h'.get? e=some u)
  (new:fD X.prog X.w (upd H x o) h' x o):Inv X pins σ (upd H x o) { s with heap:=h',toks:=t' }:=I.un (Un.write mu he k heo) (I.hok.write mu he k heo new)
theorem Inv.Ck{ahv:List (ab×Obj)}(I:Inv X pins σ H s)(h:∀p∈ahv,s.heap.get? p.1=some p.2/\H p.1=none/\p.1≠X.env.locals/\p.1∉X.fs/\∀v,p.2.data≠.cell v):Inv X ahv σ H s :=
 ⟨I.ok,I.os,I.bare,I.base,I.loc,I.cell,I.free,I.rm,fun p hp=>(dq.mp hp).elim (fun z=>I.pin p (kT _ z)) (h p),I.hok,I.len⟩
theorem Qq{N:List Str}(hN:N.Nodup){i j:Nat}{x:Str}(a:N[i]?=some x)(b:N[j]?=some x):i=j:=by obtain⟨h1,e1⟩:=di.mp a;obtain⟨h2,e2⟩:=di.mp b;exact(List.getElem_inj hN).mp (e1.trans e2.symm)
theorem Jd{M:Model}{A:a8}{E:aa->ae->Prop}{i:Nat}{x:Str}{v:V}{u:aa}{Q:Unit->ae->Prop}(I:Inv X pins σ H s)(hN:X.N.Nodup)(hi:X.N[i]?=some x)(hx:Kw X.env.scope x)(r:RelV v u)
  (h:∀s',Inv X pins (σ.set i (some v)) H s'->(∃a,et a s.heap s'.heap/\(a=X.env.locals∨X.env.cells.lookup x=some a))->Q () s') (hf:X.fn x=true∨X.env.scope.names.lookup x=some .local:=by first|exact .inl rfl|exact .inr rfl|assumption):ai M A (storeName X.env x u) Q E s:=by
 obtain⟨m,hn,hl⟩:=id I.loc;have hcls:(X.env.scope.kind == .class || (X.env.scope.kind == .module && X.env.locals != X.env.globals))=false:=by rw[I.ok.kind];rfl
 have hiσ:i < σ.length:=by rw[I.len];exact(di.mp hi).1
 have cne:=I.cne;have tracked:∀{a:ab}{h':Heap},(∃o,s.heap.get? a=some o/\H a=none)->et a s.heap h'->yg X.prog X.w H h':=fun {a h'} ha hs b ob e=>by
  obtain⟨_,_,hfree⟩:=ha;refine(I.hok b ob e).stay (fun c w' hc q=>(hs.2 c ?_).trans q) (fun _ q=>q) (fun _ _ q=>q) fun _ _ q=>q;rintro rfl;rcases hc with rfl|hc
  ·rw[hfree]at e;cases e
  ·rw[hfree]at hc;cases hc
 rcases hx with hk|hk
 ·refine wpAny_storeName_local hk hn (fun h' hn' hs=>?_) hcls;obtain⟨oL,_,_,hoL,_⟩:=id hn;refine h _ ⟨I.ok,I.os,I.bare,⟨fun b o e n hb hx=>?_,fun b o e n hb hx=>?_,I.base.free,fun b o e hx=>?_,I.base.tups,I.base.CV,I.base.GC⟩,⟨_,hn',fun j y v' e1 e2 e3=>?_⟩,fun y c e=>?_,I.free,I.rm,fun p hp=>?_,tracked ⟨oL,hoL,I.free⟩ hs,by simpa using I.len⟩ ⟨_,hs,.inl rfl⟩
  ·exact(hs.2 b (bS (dP (bg e) I.ok.above))).trans (I.base.keep b o e n hb hx)
  ·obtain⟨sl,e1⟩:=I.base.slot b o e n hb hx;exact⟨sl,(hs.2 b (bS (dP (bg e) I.ok.above))).trans e1⟩
  ·obtain⟨o',e1⟩:=I.base.there b o e hx;exact⟨o',(hs.2 b (bS (dP (bg e) I.ok.above))).trans e1⟩
  ·by_cases hj:j=i
   ·subst hj;rw[hi]at e1;cases e1;rw[dk hiσ]at e2;cases e2;exact⟨u,r,.inl ⟨hk,by simp⟩⟩
   ·rw[cS (dm hj)]at e2;obtain⟨u',r',q⟩:=hl j y v' e1 e2 e3;refine⟨u',r',?_⟩;rcases q with ⟨k,e⟩|⟨k,c,e,z⟩
    ·refine .inl ⟨k,?_⟩;have:y≠x:=fun e=>hj (Qq hN e1 (e▸hi));simp[this,e]
    ·exact .inr ⟨k,c,e,z.sameBut hs (cne y c e)⟩
  ·obtain⟨w',z⟩:=I.cell y c e;exact⟨w',z.sameBut hs (cne y c e)⟩
  ·obtain⟨e,n,ne,nf,d⟩:=I.pin p hp;exact⟨(hs.2 p.1 ne).trans e,n,ne,nf,d⟩
 ·have hfn:X.fn x=true:=by
   rcases hf with z|z
   ·exact z
   ·rw[z]at hk;cases hk
  obtain⟨c,hc⟩:=I.ok.has x (.inl hk);obtain⟨w',z⟩:=I.cell x c hc;refine wpAny_storeName_cell I.ok.kind hk hc z (fun h' hc' hs=>?_);obtain⟨oc,hoc,anN⟩:=id z;refine h { s with heap:=h' } ⟨I.ok,I.os,I.bare,⟨fun b o e n hb hx=>?_,fun b o e n hb hx=>?_,I.base.free,fun b o e hx=>?_,I.base.tups,I.base.CV,I.base.GC⟩,⟨m,hn.sameBut hs (dm (cne x c hc)),fun j y v' e1 e2 e3=>?_⟩,fun y c' e=>?_,I.free,I.rm,fun p hp=>?_,tracked ⟨oc,hoc,I.rm x c hc⟩ hs,by simpa using I.len⟩ ⟨c,hs,.inr hc⟩
  ·exact(hs.2 b (bS (dP (bg e) (I.ok.cab x c hfn hc)))).trans (I.base.keep b o e n hb hx)
  ·obtain⟨sl,e1⟩:=I.base.slot b o e n hb hx;exact⟨sl,(hs.2 b (bS (dP (bg e) (I.ok.cab x c hfn hc)))).trans e1⟩
  ·obtain⟨o',e1⟩:=I.base.there b o e hx;exact⟨o',(hs.2 b (bS (dP (bg e) (I.ok.cab x c hfn hc)))).trans e1⟩
  ·by_cases hj:j=i
   ·subst hj;rw[hi]at e1;cases e1;rw[dk hiσ]at e2;cases e2;exact⟨u,r,.inr ⟨.inl hk,c,hc,hc'⟩⟩
   ·rw[cS (dm hj)]at e2;obtain⟨u',r',q⟩:=hl j y v' e1 e2 e3;refine⟨u',r',?_⟩;rcases q with q|⟨k,c',e,z'⟩
    ·exact .inl q
    ·refine .inr ⟨k,c',e,z'.sameBut hs ?_⟩;rintro rfl;exact hj (Qq hN e1 (I.ok.inj _ _ _ e hc▸hi))
  ·by_cases hcc:c'=c
   ·subst hcc;exact⟨_,hc'⟩
   ·obtain⟨w2,z2⟩:=I.cell y c' e;exact⟨w2,z2.sameBut hs hcc⟩
  ·obtain⟨e,n,ne,nf,d⟩:=I.pin p hp;refine⟨(hs.2 p.1 ?_).trans e,n,ne,nf,d⟩;intro q;rw[q,hoc]at e;have q':oc=p.2:=cz e;exact d w' (by rw[<- q'];exact anN)
theorem Qs{M:Model}{A:a8}{E:aa->ae->Prop}{i:Nat}{x:Str}{v:V}{u:aa}{Q:Unit->ae->Prop}(I:Inv X pins σ H s)(hN:X.N.Nodup)(hi:X.N[i]?=some x)(hx:Kw X.env.scope x)(r:RelV v u)
  (h:∀s',Inv X pins (σ.set i (some v)) H s'->Q () s') (hf:X.fn x=true∨X.env.scope.names.lookup x=some .local:=by first|exact .inl rfl|exact .inr rfl|assumption):ai M A (storeName X.env x u) Q E s :=
 Jd I hN hi hx r (fun s' I' _=>h s' I') hf
theorem Inv.call'{s':ae}{ch:List ab}(I:Inv X pins σ H s)(ho:s'.os=s.os)(u:Un (pA X.stack) ch H H' s.heap s'.heap)(hok:yg X.prog X.w H' s'.heap)(hg:kc s'.gens)
  (hch:∀b∈ch,(b∈X.ex∨X.s₀.heap.objs.size<=b)/\b≠X.env.locals/\(∀x c,X.env.cells.lookup x=some c->c≠b)/\∀p∈X.pn++pins,p.1≠b):Inv X pins σ H' s':=by
 obtain⟨h',g',d',t',o'⟩:=s';have e:o'=s.os:=ho;subst e;exact I.call (g':=g') (t':=t') (d':=d') u hok hg hch
end
abbrev XK:=aa->Option ab->Hp->Prop
abbrev St:=List (Option V)
abbrev VK:=V->Hp->Prop
abbrev TE:=St->Hp->VK->Prop
abbrev TT:=St->Hp->(Bool->Hp->Prop)->Prop
abbrev TA:=St->Hp->(List V->Hp->Prop)->Prop
structure Ends where
 nx:St->Hp->Prop
 rt:VK
 bk:St->Hp->Prop:=fun _ _=>False
 ct:St->Hp->Prop:=fun _ _=>False
abbrev TS:=Ends->St->Hp->Prop
def EP(X:Cx)(pins:List (ab×Obj))(σ:St)(Q:VK)(u:aa)(s':ae):Prop:=∃v H',Inv X pins σ H' s'/\RelV v u/\Q v H'
def TP(X:Cx)(pins:List (ab×Obj))(σ:St)(Q:Bool->Hp->Prop)(b:Bool)(s':ae):Prop:=∃H',Inv X pins σ H' s'/\Q b H'
def AP(X:Cx)(pins:List (ab×Obj))(σ:St)(Q:List V->Hp->Prop)(us:List aa)(s':ae):Prop:=∃vs H',Inv X pins σ H' s'/\Vals vs us/\Q vs H'
def SP(X:Cx)(pins:List (ab×Obj))(D:Ends)(f:Flow)(s':ae):Prop :=
 match f with
 | .next=>∃σ' H',Inv X pins σ' H' s'/\D.nx σ' H'
 | .brk=>∃σ' H',Inv X pins σ' H' s'/\D.bk σ' H'
 | .cont=>∃σ' H',Inv X pins σ' H' s'/\D.ct σ' H'
 | .ret u=>∃v σ' H',Inv X pins σ' H' s'/\RelV v u/\D.rt v H'
def PE(X:Cx)(e:ag)(t:TE):Prop :=
 ∀(pins:List (ab×Obj)) (s:ae) (σ:St) (H:Hp) (Q:VK),Inv X pins σ H s->t σ H Q->ai (ar X.prog X.w) X.A (aS e X.env) (EP X pins σ Q) X.xe s
def PT(X:Cx)(e:ag)(t:TT):Prop :=
 ∀(pins:List (ab×Obj)) (s:ae) (σ:St) (H:Hp) (Q:Bool->Hp->Prop),Inv X pins σ H s->t σ H Q->ai (ar X.prog X.w) X.A (isTrue e X.env (aS e X.env)) (TP X pins σ Q) X.xe s
def PW(X:Cx)(e:ag)(t:TT):Prop :=
 ∀(whole:Sem aa) (pins:List (ab×Obj)) (s:ae) (σ:St) (H:Hp) (Q:Bool->Hp->Prop),Inv X pins σ H s->t σ H Q->ai (ar X.prog X.w) X.A (isTrue e X.env whole) (TP X pins σ Q) X.xe s
theorem PW.pt{X:Cx}{e:ag}{t:TT}(h:PW X e t):PT X e t:=h _
def PA(X:Cx)(es:List ag)(t:TA):Prop :=
 ∀(pos:Pos) (pins:List (ab×Obj)) (s:ae) (σ:St) (H:Hp) (Q:List V->Hp->Prop),Inv X pins σ H s->t σ H Q->ai (ar X.prog X.w) X.A (spliced (c6 pos (a9 es X.env))) (AP X pins σ Q) X.xe s
def PS(X:Cx)(st:be)(t:TS):Prop :=
 ∀(pins:List (ab×Obj)) (s:ae) (σ:St) (H:Hp) (D:Ends),Inv X pins σ H s->t D σ H->ai (ar X.prog X.w) X.A (exec st X.env) (SP X pins D) X.xe s
def Vx(X:Cx)(st:List be)(t:TS):Prop :=
 ∀(pins:List (ab×Obj)) (s:ae) (σ:St) (H:Hp) (D:Ends),Inv X pins σ H s->t D σ H->ai (ar X.prog X.w) X.A (execs st X.env) (SP X pins D) X.xe s
theorem jD{α:Type}{t:Sem α}{Q Q':α->ae->Prop}{M:Model}{A:a8}{E:aa->ae->Prop}{s:ae}(h:ai M A t Q E s)(hQ:∀a s,Q a s->Q' a s):ai M A t Q' E s:=dQ h hQ fun _ _ x=>x
section
variable{X:Cx}
def GD(i:Nat):TE:=fun σ H Q=>∃v,σ[i]?=some (some v)/\Q v H
def tC(v:V):TE:=fun _ H Q=>Q v H
theorem gO{i:Nat}{x:Str}{pos:Pos}(hN:X.N[i]?=some x) (hv:Kv X.env.scope x) (hd:(x == ("__debug__":Str))=false:=by decide) (hcd:(x == ("__classdict__":Str))=false:=by decide):PE X (.Name x pos) (GD i):=by
 intro pins s σ H Q I h;obtain⟨v,e,h⟩:=h;obtain⟨m,hn,hl⟩:=I.loc;obtain⟨u,r,l⟩:=hl i x v hN e hv;have gD:EP X pins σ Q u s:=⟨v,H,I,r,h⟩
 rcases l with ⟨hk,hm⟩|⟨hk,c,hc,hcell⟩
 ·exact wpAny_Name (wpAny_loadName_local I.ok.kind hk hn hm gD) hd
 ·rcases hk with hk|hk
  ·exact wpAny_Name (wpAny_loadName_cell I.ok.kind hk hc hcell gD) hd
  ·exact wpAny_Name (wpAny_loadName_free I.ok.kind hk hc hcell gD hcd) hd
theorem ail{i j pos}:PE X (.Constant (.int i) j pos) (tC (.int i)):=fun _ _ _ H _ I h=>wpAny_Constant_int ⟨.int i,H,I.tok _,⟨_,rfl⟩,h⟩
theorem akX{b j pos}:PE X (.Constant (.bool b) j pos) (tC (.bl b)):=fun _ _ _ H _ I h=>Constant_bool ⟨.bl b,H,I,rfl,h⟩
def Gl(X:Cx)(x:Str):Prop:=X.env.kindOf x=some .globalImplicit
theorem Yq{E:aa->ae->Prop}{pins:List (ab×Obj)}{s:ae}{σ:St}{H:Hp}{x:Str}{u:aa}{pos:Pos}{Q:aa->ae->Prop}(I:Inv X pins σ H s)(hg:Gl X x)(hm:X.mg x=some u)(h:Q u s)
  (hd:(x == ("__debug__":Str))=false:=by decide):ai (ar X.prog X.w) X.A (aS (.Name x pos) X.env) Q E s :=
 Calls.Name_function_global I.ok.kind hg (Calls.loadGlobal_global (by rw[I.ok.glob];exact I.mod.glob.keeps I.bk) hm h) hd
theorem uY{E:aa->ae->Prop}{pins:List (ab×Obj)}{s:ae}{σ:St}{H:Hp}{x:Str}{u:aa}{pos:Pos}{Q:aa->ae->Prop}(I:Inv X pins σ H s)(hg:Gl X x)(hm:X.mg x=none)(hv:ic x=some u)(h:Q u s)
  (hn:x≠"__name__":=by decide) (hd:(x == ("__debug__":Str))=false:=by decide):ai (ar X.prog X.w) X.A (aS (.Name x pos) X.env) Q E s:=by
 obtain⟨mb,h1,h2⟩:=I.mod.blt;exact Calls.Name_function_global I.ok.kind hg (Calls.loadGlobal_builtin (by rw[I.ok.glob];exact I.mod.glob.keeps I.bk) hm (by rw[I.ok.blt];exact h1.keeps I.bk) ((h2 x hn).trans hv) h) hd
theorem afm{x:Str}{v:V}{u:aa}{pos:Pos}(hg:Gl X x) (hm:X.mg x=none) (hv:ic x=some u) (r:RelV v u) (hn:x≠"__name__":=by decide) (hd:(x == ("__debug__":Str))=false:=by decide):PE X (.Name x pos) (tC v) :=
 fun _ _ _ H _ I h=>uY I hg hm hv ⟨v,H,I,r,h⟩ hn hd
variable{a b:ag}{ta tb:TE}{pos:Pos}
def tB(t:TE):TT:=fun σ H Q=>t σ H fun x H1=>∃c,x=.bl c/\Q c H1
theorem ain{e:ag}{t:TE}(h:PE X e t)(he:∀whole,isTrue e X.env whole=(do let v <- whole;kd e.pos;du [v] (truthy v)):=by intro _;rfl):PT X e (tB t):=by intro pins s σ H Q I hw;refine isTrue_plain (jD (h pins s σ H _ I hw) fun v s1 ⟨x,H1,I1,r1,q1⟩=>?_) (he _);obtain⟨d,rfl,q⟩:=q1;cases r1;exact kU ⟨H1,I1,q⟩
variable{tA tB':TT}{rest:List ag}
def anO(t u:TT):TT:=fun σ H Q=>t σ H fun c H1=>if c=true then u σ H1 Q else Q false H1
def tOr(t u:TT):TT:=fun σ H Q=>t σ H fun c H1=>if c=true then Q true H1 else u σ H1 Q
def anP(t:TT):TT:=fun σ H Q=>t σ H fun c H1=>Q (!c) H1
theorem afn(ha:PT X a tA):PW X (.BoolOp .And [a] pos) tA:=by
 intro wh pins s σ H Q I h;refine isTrue_and (jD (ha pins s σ H Q I h) fun c s1 e=>?_);cases c with
 |true=>exact isTrue_and_nil e
 |false=>exact e
theorem aio(ha:PT X a tA):PW X (.BoolOp .Or [a] pos) tA:=by
 intro wh pins s σ H Q I h;refine isTrue_or (jD (ha pins s σ H Q I h) fun c s1 e=>?_);cases c with
 |false=>exact isTrue_or_nil e
 |true=>exact e
theorem aip(ha:PT X a tA)(hb:PW X (.BoolOp .And (b::rest) pos) tB'):PW X (.BoolOp .And (a::b::rest) pos) (anO tA tB'):=by
 intro wh pins s σ H Q I h;refine isTrue_and (jD (ha pins s σ H _ I h) fun c s1 fV=>?_);obtain⟨H1,I1,q1⟩:=fV;cases c with
 |true=>exact hb wh pins s1 σ H1 Q I1 q1
 |false=>exact⟨H1,I1,q1⟩
theorem akY(ha:PT X a tA)(hb:PW X (.BoolOp .Or (b::rest) pos) tB'):PW X (.BoolOp .Or (a::b::rest) pos) (tOr tA tB'):=by
 intro wh pins s σ H Q I h;refine isTrue_or (jD (ha pins s σ H _ I h) fun c s1 fV=>?_);obtain⟨H1,I1,q1⟩:=fV;cases c with
 |true=>exact⟨H1,I1,q1⟩
 |false=>exact hb wh pins s1 σ H1 Q I1 q1
theorem aiq(ha:PT X a tA):PT X (.UnaryOp .Not a pos) (anP tA):=by intro pins s σ H Q I h;exact isTrue_not (ha pins s σ H (fun c H1=>Q (!c) H1) I h)
def akZ(ta tb:TE):TE:=fun σ H Q=>ta σ H fun x H1=>∃c,x=.bl c/\if c=true then tb σ H1 Q else Q (.bl false) H1
def ala(ta:TE):TE:=fun σ H Q=>ta σ H fun x H1=>∃c,x=.bl c/\Q (.bl (!c)) H1
theorem air{op}{t:TE}(h:PE X a t):PE X (.BoolOp op [a] pos) t:=fun pins s σ H Q I hw=>BoolOp_one (h pins s σ H Q I hw)
theorem ais(ha:PE X a ta)(hb:PE X (.BoolOp .And (b::rest) pos) tb):PE X (.BoolOp .And (a::b::rest) pos) (akZ ta tb):=by
 intro pins s σ H Q I h;refine BoolOp_and (jD (ha pins s σ H _ I h) fun v s1 fV=>?_);obtain⟨x,H1,I1,r1,q1⟩:=fV;obtain⟨c,rfl,q1⟩:=q1;cases r1;refine kU ?_;cases c with
 |true=>exact hb pins s1 σ H1 Q I1 q1
 |false=>exact⟨.bl false,H1,I1,rfl,q1⟩
theorem ait(ha:PE X a ta):PE X (.UnaryOp .Not a pos) (ala ta):=by intro pins s σ H Q I h;refine UnaryOp_ (jD (ha pins s σ H _ I h) fun v s1 fV=>?_);obtain⟨x,H1,I1,r1,q1⟩:=fV;obtain⟨c,rfl,q1⟩:=q1;cases r1;exact not_of (kU ⟨.bl (!c),H1,I1,rfl,q1⟩)
end
def rG(K:ah)(H:Hp)(a:ab)(xs:List V):Prop :=
 Rd H a (.lst xs) ∨
  ∃(o:Obj) (its:Array aa) (n:Nat),K.lookup a=some o/\o.cls=.type "list"/\o.dict=none/\o.data=.seq its n/\its.size<=sizeLine/\Vals xs its.toList
def pB(K:ah)(H:Hp)(a:ab)(xs:List V):Prop :=
 Rd H a (.tup xs) ∨
  ∃(o:Obj) (its:Array aa) (n:Nat),K.lookup a=some o/\o.cls=.type "tuple"/\o.data=.seq its n/\its.size<=sizeLine/\Vals xs its.toList
def anQ:aa->Option V
 | .none=>some .non
 | .bool b=>some (.bl b)
 | .int i _=>some (.int i)
 | .str x _=>some (.str x)
 | .bytes b _=>some (.byt b)
 | .float b _=>some (.flt b)
 | .ref a=>some (.ref a)
 | .type n=>some (.ty n)
 |_=>none
theorem RelV.abs{x:V}{u:aa}(r:RelV x u):anQ u=some x:=by
 cases x with
 |non=>cases r;rfl
 |bl _=>cases r;rfl
 |int _=>obtain⟨t,rfl⟩:=r;rfl
 |str _=>obtain⟨t,rfl⟩:=r;rfl
 |byt _=>obtain⟨t,rfl⟩:=r;rfl
 |flt _=>obtain⟨t,rfl⟩:=r;rfl
 |ref _=>cases r;rfl
 |ty _=>cases r;rfl
theorem RelV.inj{x y:V}{u:aa}(r:RelV x u)(q:RelV y u):x=y:=cz (r.abs.symm.trans q.abs)
theorem Vals.inj:∀{xs ys:List V}{us:List aa},Vals xs us->Vals ys us->xs=ys
 |_,_,_,.nil,.nil=>rfl
 |_,_,_,.cons r t,.cons r' t'=>by rw[r.inj r',Vals.inj t t']
section
variable{X:Cx}{pins:List (ab×Obj)}{σ:St}{H:Hp}{s:ae}{a:ab}{xs ys:List V}
theorem rG.of{K:ah}(h:H a=some (.lst xs)):rG K H a xs:=.inl (.inl h)
theorem pB.of{K:ah}(h:H a=some (.tup xs)):pB K H a xs:=.inl (.inl h)
theorem Inv.list(I:Inv X pins σ H s)(h:rG X.K H a xs):∃its:List aa,Vals xs its/\PlainL s.heap a its.toArray/\xs.length<=sizeLine:=by
 rcases h with h|⟨o,its,n,hk,hc,hd,hs,hz,r⟩
 ·obtain⟨z,its,n,r,e⟩:=h.ok I.hok;exact⟨its,r,⟨_,n,e,rfl,rfl,rfl⟩,z⟩
 ·refine⟨its.toList,r,⟨o,n,I.Vu a o hk,hc,hd,by simpa using hs⟩,?_⟩;have e:=r.length;simp only[i0]at e;lia
theorem Inv.tuple(I:Inv X pins σ H s)(h:pB X.K H a xs):∃its:List aa,Vals xs its/\IsTup s.heap a its.toArray/\xs.length<=sizeLine:=by
 rcases h with h|⟨o,its,n,hk,hc,hs,hz,r⟩
 ·obtain⟨z,its,r,p⟩:=h.ok I.hok;exact⟨its,r,p,z⟩
 ·refine⟨its.toList,r,⟨o,I.Vu a o hk,hc,n,by simpa using hs⟩,?_⟩;have e:=r.length;simp only[i0]at e;lia
theorem Inv.Qt(I:Inv X pins σ H s)(h:rG X.K H a xs)(h':rG X.K H a ys):xs=ys:=by
 obtain⟨its,r,⟨o,n,e,_,_,d⟩,_⟩:=I.list h;obtain⟨its',r',⟨o',n',e',_,_,d'⟩,_⟩:=I.list h';rw[e]at e';cases e';rw[d]at d';injection d' with d1 _;have:its=its':=by simpa using congrArg Array.toList d1
 subst this;exact r.inj r'
theorem Inv.yh(I:Inv X pins σ H s)(h:pB X.K H a xs)(h':pB X.K H a ys):xs=ys:=by
 obtain⟨its,r,⟨o,e,_,n,d⟩,_⟩:=I.tuple h;obtain⟨its',r',⟨o',e',_,n',d'⟩,_⟩:=I.tuple h';rw[e]at e';cases e';rw[d]at d';injection d' with d1 _;have:its=its':=by simpa using congrArg Array.toList d1
 subst this;exact r.inj r'
end
abbrev Cx.wish(X:Cx)(E:aa->ae->Prop):Cx:={ X with xe:=E }
abbrev Cx.nox(X:Cx):Cx:=X.wish fun _ _=>False
theorem Cx.Ok.wish{X:Cx}(ok:X.Ok)(E:aa->ae->Prop):(X.wish E).Ok :=
 ⟨ok.mod,ok.kind,ok.glob,ok.blt,ok.above,ok.inj,ok.has,ok.cab,ok.hd,ok.frames,ok.stk,ok.exf,ok.bs,ok.bsz,ok.aag,ok.afl,ok.CZ,ok.frf⟩
theorem Cx.Ok.rK{X:Cx}{E:aa->ae->Prop}(ok:(X.wish E).Ok):X.Ok :=
 ⟨ok.mod,ok.kind,ok.glob,ok.blt,ok.above,ok.inj,ok.has,ok.cab,ok.hd,ok.frames,ok.stk,ok.exf,ok.bs,ok.bsz,ok.aag,ok.afl,ok.CZ,ok.frf⟩
section
variable{X:Cx}{pins:List (ab×Obj)}{σ:St}{H:Hp}{s:ae}{E:aa->ae->Prop}
theorem Inv.wish(I:Inv X pins σ H s)(E:aa->ae->Prop):Inv (X.wish E) pins σ H s:=⟨I.ok.wish E,I.os,I.bare,I.base,I.loc,I.cell,I.free,I.rm,I.pin,I.hok,I.len⟩
theorem Inv.rK(I:Inv (X.wish E) pins σ H s):Inv X pins σ H s:=⟨I.ok.rK,I.os,I.bare,I.base,I.loc,I.cell,I.free,I.rm,I.pin,I.hok,I.len⟩
theorem SP.rK{D:Ends}{f:Flow}{s':ae}(h:SP (X.wish E) pins D f s'):SP X pins D f s':=by
 cases f with
 |next=>obtain⟨σ',H',I,q⟩:=h;exact⟨σ',H',I.rK,q⟩
 |brk=>obtain⟨σ',H',I,q⟩:=h;exact⟨σ',H',I.rK,q⟩
 |cont=>obtain⟨σ',H',I,q⟩:=h;exact⟨σ',H',I.rK,q⟩
 |ret u=>obtain⟨v,σ',H',I,r,q⟩:=h;exact⟨v,σ',H',I.rK,r,q⟩
end
section
variable{X:Cx}{st:be}{rest:List be}{t u:TS}{e:ag}{te:TE}{pos:Pos}
def alc:TS:=fun D σ H=>D.nx σ H
def anR(t u:TS):TS:=fun D σ H=>t { D with nx:=u D } σ H
theorem afo:Vx X [] alc:=fun _ _ σ H _ I h=>se ⟨σ,H,I,h⟩
theorem abD(h1:PS X st t)(h2:Vx X rest u):Vx X (st::rest) (anR t u):=by
 intro pins s σ H D I h;refine wpAny_execs_cons (jD (h1 pins s σ H { D with nx:=u D } I h) fun f s1 q=>?_);cases f with
 |next =>
  obtain⟨σ',H',I',q⟩:=q;exact h2 pins s1 σ' H' D I' q
 |ret v=>exact q
 |brk=>exact q
 |cont=>exact q
theorem afp(h1:PS X st t):Vx X [st] t:=by
 intro pins s σ H D I h;refine wpAny_execs_cons (jD (h1 pins s σ H D I h) fun f s1 q=>?_);cases f with
 |next=>exact se q
 |ret v=>exact q
 |brk=>exact q
 |cont=>exact q
theorem Inv.quiet{pins:List (ab×Obj)}{σ:St}{H:Hp}{s:ae}(I:Inv X pins σ H s):interactive X.env=false:=by simp[interactive,I.ok.kind]
def ald(te:TE):TS:=fun D σ H=>te σ H fun _ H1=>D.nx σ H1
theorem Ky(he:PE X e te)(hs:d6 e none pos.line X.env=pure false:=by rfl):PS X (.Expr e pos) (ald te):=by intro pins s σ H D I h;exact wpAny_Expr_any (jD (he pins s σ H _ I h) fun v s1 ⟨x,H1,I1,r1,q1⟩=>⟨σ,H1,I1,q1⟩) I.quiet hs
def anS(te:TE):TS:=fun D σ H=>te σ H D.rt
theorem Vy(he:PE X e te):PS X (.Return (some e) pos) (anS te):=by intro pins s σ H D I h;exact wpAny_Return_some (jD (he pins s σ H _ I h) fun v s1 ⟨x,H1,I1,r1,q1⟩=>⟨x,σ,H1,I1,r1,q1⟩)
def anT(c:TT)(t u:TS):TS:=fun D σ H=>c σ H fun b H1=>if b=true then t D σ H1 else u D σ H1
theorem ahw{c:ag}{a b:List be}{tc:TT}(hc:PT X c tc)(ha:Vx X a t)(hb:Vx X b u):PS X (.If c a b pos) (anT tc t u):=by
 intro pins s σ H D I h;refine wpAny_If (jD (hc pins s σ H _ I h) fun d s1 fV=>?_);obtain⟨H1,I1,q1⟩:=fV;cases d with
 |true=>exact ha pins s1 σ H1 D I1 q1
 |false=>exact hb pins s1 σ H1 D I1 q1
end
abbrev TG:=V->St->Hp->(St->Hp->Prop)->Prop
abbrev TGs:=List V->St->Hp->(St->Hp->Prop)->Prop
def PG(X:Cx)(target:ag)(t:TG):Prop :=
 ∀(pins:List (ab×Obj)) (s:ae) (σ:St) (H:Hp) (v:V) (u:aa) (Q:St->Hp->Prop),Inv X pins σ H s->RelV v u->t v σ H Q ->
  ai (ar X.prog X.w) X.A (assign target X.env u) (fun _ s'=>∃σ' H',Inv X pins σ' H' s'/\Q σ' H') X.xe s
def PGs(X:Cx)(ts:List ag)(t:TGs):Prop :=
 ∀(pins:List (ab×Obj)) (s:ae) (σ:St) (H:Hp) (vs:List V) (us:List aa) (Q:St->Hp->Prop),Inv X pins σ H s->Vals vs us->t vs σ H Q ->
  ai (ar X.prog X.w) X.A (assignInOrder ((dy ts X.env).map (·.2)) us) (fun _ s'=>∃σ' H',Inv X pins σ' H' s'/\Q σ' H') X.xe s
abbrev afr:=V->V->V->Hp->(Hp->Prop)->Prop
def aiu(X:Cx)(t:afr):Prop :=
 ∀(pins:List (ab×Obj)) (s:ae) (σ:St) (H:Hp) (o i v:V) (ov iv u:aa) (Q:Hp->Prop),Inv X pins σ H s->RelV o ov->RelV i iv->RelV v u->t o i v H Q ->
  ai (ar X.prog X.w) X.A (setItem ov iv u) (fun _ s'=>∃H',Inv X pins σ H' s'/\Q H') X.xe s
section
variable{X:Cx}{pos:Pos}
def ahx(i:Nat):TG:=fun v σ H Q=>Q (σ.set i (some v)) H
theorem Yr{i:Nat}{x:Str}(hN:X.N.Nodup)(hi:X.N[i]?=some x)(hx:Kw X.env.scope x)(hf:X.fn x=true∨X.env.scope.names.lookup x=some .local:=by first|exact .inl rfl|exact .inr rfl|assumption):PG X (.Name x pos) (ahx i):=by intro pins s σ H v u Q I r h;exact wpAny_assign_Name (Qs I hN hi hx r (fun s' I'=>⟨_,H,I',h⟩) hf)
def anU:TGs:=fun vs σ H Q=>vs=[]/\Q σ H
def ale(t:TG)(u:TGs):TGs:=fun vs σ H Q=>∃v r,vs=v::r/\t v σ H fun σ' H'=>u r σ' H' Q
theorem Ys:PGs X [] anU:=by intro pins s σ H vs us Q I r h;obtain⟨e,h⟩:=h;subst e;cases r;exact assignInOrder_nil ⟨σ,H,I,h⟩
theorem Dc{e:ag}{es:List ag}{t:TG}{u:TGs}(h1:PG X e t)(h2:PGs X es u)
  (hs:(dy (e::es) X.env).map (·.2)=assign e X.env::(dy es X.env).map (·.2):=by rfl):PGs X (e::es) (ale t u):=by
 intro pins s σ H vs us Q I r h;obtain⟨v,vr,e1,h⟩:=h;subst e1;cases r with
 |cons r rr =>
  rw[hs];refine assignInOrder_cons (jD (h1 pins s σ H _ _ _ I r h) fun _ s1 fV=>?_);obtain⟨σ1,H1,I1,q1⟩:=fV;exact h2 pins s1 σ1 H1 _ _ Q I1 rr q1
def dH(K:ah)(n:Nat)(t:TGs):TG:=fun v σ H Q=>∃a xs,v=.ref a/\pB K H a xs/\xs.length=n/\t xs σ H Q
theorem abE{es:List ag}{k:Nat}{t:TGs}{n:Nat}(hc:X.calm=true)(h:PGs X es t)
  (hn:(dy es X.env).length=n:=by rfl) (hst:(dy es X.env).findIdx? (·.1)=none:=by rfl):PG X (.Tuple es k pos) (dH X.K n t):=by
 intro pins s σ H v u Q I r hw;obtain⟨a,xs,e1,hq,hl,hw⟩:=hw;subst e1;cases r;obtain⟨its,rv,ht,hz⟩:=I.tuple hq;refine assign_Tuple_tuple (I.ok.hd hc) ht (by simp[hn,<- hl,rv.length]) hst fun h' hx=>?_;have I1:Inv X pins σ H { s with heap:=h' }:=I.kept (t':=s.toks) fun b o e=>hx b o (bS (bg e)) e;exact h pins _ σ H xs _ Q I1 (by simpa using rv) hw
def lH(to ti:TE)(t:afr):TG:=fun v σ H Q=>to σ H fun o H1=>ti σ H1 fun i H2=>t o i v H2 fun H3=>Q σ H3
theorem Vz{o i:ag}{to ti:TE}{t:afr}(ho:PE X o to)(hi:PE X i ti)(hs:aiu X t)
  (ha:∀v,assign (.Subscript o i pos) X.env v=(do
   let ov <- du [v] (aS o X.env)
   let iv <- du [v,ov] (aS i X.env)
   kd pos
   du [v,ov,iv] (setItem ov iv v)
   release [v,ov,iv] []):=by intro _;rfl):PG X (.Subscript o i pos) (lH to ti t):=by
 intro pins s σ H v u Q I r h;rw[ha];refine af (ez (jD (ho pins s σ H _ I h) fun ov s1 fV=>?_));obtain⟨x,H1,I1,r1,q1⟩:=fV;refine af (ez (jD (hi pins s1 σ H1 _ I1 q1) fun iv s2 fV=>?_));obtain⟨y,H2,I2,r2,q2⟩:=fV;refine af (sf (af (ez (jD (hs pins s2 σ H2 x y v ov iv u _ I2 r1 r2 r q2) fun _ s3 fV=>?_))));obtain⟨H3,I3,q3⟩:=fV;exact wpAny_release ⟨σ,H3,I3,q3⟩
def alf(te:TE)(g:TG):TS:=fun D σ H=>te σ H fun x H1=>g x σ H1 D.nx
theorem Kz{tg e:ag}{te:TE}{g:TG}(he:PE X e te)(hg:PG X tg g)(hs:ke [tg] e pos.line X.env=pure false:=by rfl)(hw:kg [tg] e X.env=pure none:=by rfl)
  (h1:(dy [tg] X.env).map (·.2)=[assign tg X.env]:=by rfl):PS X (.Assign [tg] e pos) (alf te g):=by
 intro pins s σ H D I h;refine wpAny_Assign_stores (jD (he pins s σ H _ I h) fun v s1 ⟨x,H1,I1,r1,q1⟩=>?_) hs hw;rw[h1];exact jD (hg pins s1 σ H1 x v _ I1 r1 q1) fun _ s2 q=>q
theorem yj{i:Nat}{x:Str}{e:ag}{te:TE}{pos':Pos}(hN:X.N.Nodup)(hi:X.N[i]?=some x)(hx:Kw X.env.scope x)(he:PE X e te)(hs:d6 e (some (.Name x pos')) pos.line X.env=pure false:=by rfl)(hf:X.fn x=true∨X.env.scope.names.lookup x=some .local:=by first|exact .inl rfl|exact .inr rfl|assumption) :
  PS X (.Assign [.Name x pos'] e pos) (alf te (ahx i)):=by
 intro pins s σ H D I h;refine wpAny_Assign_Name (jD (he pins s σ H _ I h) fun v s1 ⟨y,H1,I1,r1,q1⟩=>?_) hs;exact Qs I1 hN hi hx r1 (fun s2 I2=>⟨_,H1,I2,q1⟩) hf
end
section
variable{X:Cx}{pos:Pos}
end
structure It where
 go:Nat->Hp->Prop
 yld:Nat->Hp->V->Hp->Prop
 stop:Nat->Hp->Prop
def pZ(X:Cx)(pins:List (ab×Obj))(H:Hp)(b:ab):Prop :=
 H b=none/\b≠X.env.locals/\b∉X.fs/\(b∈X.ex∨X.s₀.heap.objs.size<=b)/\(∀x c,X.env.cells.lookup x=some c->c≠b)/\∀p∈X.pn++pins,p.1≠b
theorem Inv.Qu{X:Cx}{pins:List (ab×Obj)}{σ:St}{H H':Hp}{s:ae}{b:ab}(I:Inv X pins σ H s)(hb:s.heap.objs.size<=b)(hn:H' b=none):pZ X pins H' b:=by
 refine⟨hn,kX (dP I.lt hb),I.abB hb,.inr (cx I.sz hb),fun x c e z=>?_,fun p hp z=>?_⟩
 ·obtain⟨v,q⟩:=I.cell x c e;exact absurd (dP q.lt (by rw[z];exact hb)) (f9 _)
 ·exact absurd (dP (bg (I.pin p hp).1) (by rw[z];exact hb)) (f9 _)
structure Turn (P:aE)(w:ay)(K:ah)(tg:ag)(J:It)(fp:List ab)(it:ab)(tn:Nat->Heap->Prop):Prop where
  mem:it∈fp
  obj:∀i h,tn i h->∀b∈fp,∃o,h.get? b=some o/\∀v,o.data≠.cell v
  keep:∀i h h',tn i h->(∀b∈fp,∀o,h.get? b=some o->h'.get? b=some o)->tn i h'
  item:∀(X:Cx),X.prog=P->X.w=w->X.K=K->X.calm=true->∀(i:Nat) (pins:List (ab×Obj)) (s:ae) (σ:St) (H:Hp) (E:aa->ae->Prop),Inv X pins σ H s->(∀b∈fp,pZ X pins H b)->tn i s.heap->J.go i H ->
    ai (ar P w) X.A (dS (.ref it)) (fun r s1=>∃u,r=some u /\
      ai (ar P w) X.A (oI tg (.ref it) u) (fun _ s2=>∃x H',Inv X pins σ H' s2/\RelV x u/\J.yld i H x H'/\tn (i + 1) s2.heap/\∀b∈fp,H' b=none) E s1) E s
  done : ∀(X : Cx), X.prog = P -> X.w = w -> X.K = K -> X.calm = true -> ∀(i : Nat) (pins : List (ab × Obj)) (s : ae) (σ : St) (H : Hp) (E : aa -> ae -> Prop), Inv X pins σ H s -> (∀b ∈ fp, pZ X pins H b) -> tn i s.heap -> J.stop i H ->
    ai (ar P w) X.A (dS (.ref it)) (fun r s1=>r=none/\Inv X pins σ H s1) E s
  self:∀(A:a8) (i:Nat) (s:ae) (Q:aa->ae->Prop) (E:aa->ae->Prop),tn i s.heap->Q (.ref it) s->ai (ar P w) A (i_ (.ref it)) Q E s
abbrev TI:=St->Hp->(It->Hp->Prop)->Prop
def PIE(X:Cx)(pins:List (ab×Obj))(σ:St)(tg:ag)(R:It->Hp->Prop)(itv:aa)(s2:ae):Prop :=
 ∃(it:ab) (fp:List ab) (tn:Nat->Heap->Prop) (J:It) (H':Hp),itv=.ref it/\Inv X pins σ H' s2/\Turn X.prog X.w X.K tg J fp it tn/\tn 0 s2.heap/\(∀b∈fp,pZ X pins H' b)/\R J H'
def PI(X:Cx)(tg iter:ag)(wi:TI):Prop :=
 ∀(pins:List (ab×Obj)) (s:ae) (σ:St) (H:Hp) (R:It->Hp->Prop),Inv X pins σ H s->wi σ H R ->
  ai (ar X.prog X.w) X.A (aS iter X.env) (fun v s1=>ai (ar X.prog X.w) X.A (i_ v) (PIE X pins σ tg R) X.xe s1) X.xe s
theorem Qv{M:Model}{A:a8}{E:aa->ae->Prop}{s:ae}{tg:ag}{it:ab}{u:aa}{o:Obj}{n:String}{vs:Array aa}{Q:Unit->ae->Prop}(ho:s.heap.get? it=some o)(hc:o.cls=.type n)(hd:o.data=.fields vs)
    (hn:["enumerate","zip","dict_itemiterator","dict_reverseitemiterator","odict_iterator","itertools.zip_longest","itertools.pairwise"].contains n=false) (hQ:Q () s):ai M A (oI tg (.ref it) u) Q E s:=by
  unfold oI;cases tg <;> first
    |exact az hQ
    | (cases u <;> first
        |exact az hQ
        | (refine af (wpAny_load ho ?_)
           rw[hc,hd];show ai M A (if (["enumerate","zip","dict_itemiterator","dict_reverseitemiterator","odict_iterator","itertools.zip_longest","itertools.pairwise"].contains n && vs[0]? == some (cn _))=true then _ else _) Q E s;rw[if_neg (by intro h;rw[hn,Bool.false_and]at h;cases h)];exact az hQ))
def Itl(K:ah)(a:ab):It :=
 ⟨fun i H=>∃xs x,rG K H a xs/\xs[i]?=some x,fun i H x H'=>H'=H/\∀xs,rG K H a xs->xs[i]?=some x,fun i H=>∃xs,rG K H a xs/\xs.length<=i⟩
def Itt(K:ah)(a:ab):It :=
 ⟨fun i H=>∃xs x,pB K H a xs/\xs[i]?=some x,fun i H x H'=>H'=H/\∀xs,pB K H a xs->xs[i]?=some x,fun i H=>∃xs,pB K H a xs/\xs.length<=i⟩
def Itr(lo:Int)(n:Nat):It:=⟨fun i _=>i < n,fun i H x H'=>H'=H/\x=.int (lo + i),fun i _=>n<=i⟩
theorem aah{P:aE}{w:ay}{K:ah}{tg:ag}(a it:ab):Turn P w K tg (Itl K a) [it] it (fun i h=>h.IsListIter it a i) where
  mem:=by simp
  obj:=fun i h st b hb=>by
    have e:b=it:=by simpa using hb
    subst e;obtain⟨o,e,c,d⟩:=st;exact⟨o,e,fun v z=>by rw[d]at z;cases z⟩
  keep:=fun i h h' st k=>st.at fun o e=>k it (by simp) o e
  item:=by intro X hP hw hK hc i pins s σ H E I hf st hg;subst hP hw hK;obtain⟨xs,x,hq,hx⟩:=hg;obtain⟨its,rv,p,hz⟩:=I.list hq;obtain⟨u,hu,ru⟩:=rv.get hx;obtain⟨f0,f1,f2,f3,f4,f5⟩:=hf it (by simp);refine wpAny_pyNext_list_item st p.isList (x:=u) (by simpa using hu) fun h' st' sb=>?_;have I1:Inv X pins σ H { s with heap:=h' }:=I.turned (t':=s.toks) (fun b o hb e=>(sb.2 b hb).trans e) f0 f1 f3 f4 f5;obtain⟨o,e,c,d⟩:=id st';exact⟨u,rfl,Qv (s:={ s with heap:=h' }) e c d (by decide) ⟨x,H,I1,ru,⟨rfl,fun ys hy=>by rw[I.Qt hy hq];exact hx⟩,st',fun b hb=>(hf b hb).1⟩⟩
  done := by
    intro X hP hw hK hc i pins s σ H E I hf st hg;subst hP hw hK;obtain⟨xs,hq,hx⟩:=hg;obtain⟨its,rv,p,hz⟩:=I.list hq;obtain⟨f0,f1,f2,f3,f4,f5⟩:=hf it (by simp);have hl:=rv.length;exact wpAny_pyNext_list_end (I.ok.hd hc) st p.isList (by simp;lia) fun h' eb=>⟨rfl,I.turned (t':=s.toks) (fun b o hb e=>eb b o hb e) f0 f1 f3 f4 f5⟩
  self:=fun _ _ _ _ _ st h=>wpAny_pyIter_listiter st h
theorem VB{P:aE}{w:ay}{K:ah}{tg:ag}(a it:ab):Turn P w K tg (Itt K a) [it] it (fun i h=>h.IsTupleIter it a i) where
  mem:=by simp
  obj:=fun i h st b hb=>by
    have e:b=it:=by simpa using hb
    subst e;obtain⟨o,e,c,d⟩:=st;exact⟨o,e,fun v z=>by rw[d]at z;cases z⟩
  keep:=fun i h h' st k=>st.at fun o e=>k it (by simp) o e
  item:=by intro X hP hw hK hc i pins s σ H E I hf st hg;subst hP hw hK;obtain⟨xs,x,hq,hx⟩:=hg;obtain⟨its,rv,p,hz⟩:=I.tuple hq;obtain⟨u,hu,ru⟩:=rv.get hx;obtain⟨f0,f1,f2,f3,f4,f5⟩:=hf it (by simp);refine wpAny_pyNext_tuple_item st (show s.heap.IsTuple a its.toArray from p) (x:=u) (by simpa using hu) fun h' st' sb=>?_;have I1:Inv X pins σ H { s with heap:=h' }:=I.turned (t':=s.toks) (fun b o hb e=>(sb.2 b hb).trans e) f0 f1 f3 f4 f5;obtain⟨o,e,c,d⟩:=id st';exact⟨u,rfl,Qv (s:={ s with heap:=h' }) e c d (by decide) ⟨x,H,I1,ru,⟨rfl,fun ys hy=>by rw[I.yh hy hq];exact hx⟩,st',fun b hb=>(hf b hb).1⟩⟩
  done := by
    intro X hP hw hK hc i pins s σ H E I hf st hg;subst hP hw hK;obtain⟨xs,hq,hx⟩:=hg;obtain⟨its,rv,p,hz⟩:=I.tuple hq;obtain⟨f0,f1,f2,f3,f4,f5⟩:=hf it (by simp);have hl:=rv.length;exact wpAny_pyNext_tuple_end (I.ok.hd hc) st (show s.heap.IsTuple a its.toArray from p) (by simp;lia) fun h' eb=>⟨rfl,I.turned (t':=s.toks) (fun b o hb e=>eb b o hb e) f0 f1 f3 f4 f5⟩
  self:=fun _ _ _ _ _ st h=>wpAny_pyIter_tupleiter st h
theorem VD{P:aE}{w:ay}{K:ah}{tg:ag}(it:ab)(lo:Int)(n:Nat):Turn P w K tg (Itr lo n) [it] it (fun i h=>IsRangeIter h it (lo + (i:Nat) * 1) ((n:Int) - (i:Nat)) 1) where
  mem:=by simp
  obj:=fun i h st b hb=>by
    have e:b=it:=by simpa using hb
    subst e;exact⟨_,st,fun v z=>by
      have z':Data.fields _=Data.cell v:=z;cases z'⟩
  keep:=fun i h h' st k=>k it (by simp) _ st
  item:=by intro X hP hw hK hc i pins s σ H E I hf st hg;subst hP hw hK;obtain⟨f0,f1,f2,f3,f4,f5⟩:=hf it (by simp);have W:=Walks.range (prog:=X.prog) (w:=X.w) (I.ok.hd hc) it lo 1 n;refine W.item i s _ _ hg st fun v h' tk hv st' kk=>?_;obtain⟨t,rfl⟩:=hv;have I1:Inv X pins σ H { s with heap:=h',toks:=tk }:=I.turned (fun b o hb e=>kk b o (by simpa using hb) e) f0 f1 f3 f4 f5;refine⟨_,rfl,Qv (s:={ s with heap:=h',toks:=tk }) (n:="range_iterator") st' rfl rfl (by decide) ⟨.int (lo + i),H,I1,⟨t,?_⟩,⟨rfl,rfl⟩,st',fun b hb=>(hf b hb).1⟩⟩;rw[Int.mul_one]
  done := by
    intro X hP hw hK hc i pins s σ H E I hf st hg;subst hP hw hK;obtain⟨f0,f1,f2,f3,f4,f5⟩:=hf it (by simp);exact wpAny_pyNext_range_end (I.ok.hd hc) st (by have:n<=i:=hg;lia) fun h' eb=>⟨rfl,I.turned (t':=s.toks) (fun b o hb e=>eb b o hb e) f0 f1 f3 f4 f5⟩
  self:=fun _ _ _ _ _ st h=>wpAny_pyIter_rangeiter st h
section
variable{X:Cx}{tg:ag}
def alh(K:ah)(tl:TE):TI:=fun σ H R=>tl σ H fun x H1=>∃a,x=.ref a/\(∃xs,rG K H1 a xs)/\R (Itl K a) H1
def anV(K:ah)(tl:TE):TI:=fun σ H R=>tl σ H fun x H1=>∃a,x=.ref a/\(∃xs,pB K H1 a xs)/\R (Itt K a) H1
theorem Yt{l:ag}{tl:TE}(hl:PE X l tl):PI X tg l (alh X.K tl):=by
 intro pins s σ H R I h;refine jD (hl pins s σ H _ I h) fun v s1 fV=>?_;obtain⟨x,H1,I1,r1,q1⟩:=fV;obtain⟨a,e,⟨xs,hq⟩,q⟩:=q1;subst e;cases r1;obtain⟨its,rv,p,hz⟩:=I1.list hq;refine oP p.isList ?_;refine⟨s1.heap.objs.size,[s1.heap.objs.size],_,_,H1,rfl,I1.kept (t':=s1.toks) fun b o e=>b0 _ e,aah a _,⟨_,cy _ rfl,rfl,rfl⟩,fun b hb=>?_,q⟩;have e:b=s1.heap.objs.size:=by simpa using hb
 subst e;exact I1.Qu (bj _) (I1.hok.fresh (bj _))
theorem abF{l:ag}{tl:TE}(hl:PE X l tl):PI X tg l (anV X.K tl):=by
 intro pins s σ H R I h;refine jD (hl pins s σ H _ I h) fun v s1 fV=>?_;obtain⟨x,H1,I1,r1,q1⟩:=fV;obtain⟨a,e,⟨xs,hq⟩,q⟩:=q1;subst e;cases r1;obtain⟨its,rv,p,hz⟩:=I1.tuple hq;refine wpAny_pyIter_tuple (show s1.heap.IsTuple a its.toArray from p) ?_;refine⟨s1.heap.objs.size,[s1.heap.objs.size],_,_,H1,rfl,I1.kept (t':=s1.toks) fun b o e=>b0 _ e,VB a _,⟨_,cy _ rfl,rfl,rfl⟩,fun b hb=>?_,q⟩;have e:b=s1.heap.objs.size:=by simpa using hb
 subst e;exact I1.Qu (bj _) (I1.hok.fresh (bj _))
theorem Qw{pins:List (ab×Obj)}{σ:St}{H:Hp}{s:ae}{R:It->Hp->Prop}{E:aa->ae->Prop}{lo hi:Int}{t u v:Tok}{tk:Nat}(I:Inv X pins σ H s)(h1:-(2 ^ 62)<=lo)(h2:lo < 2 ^ 62)(h3:-(2 ^ 62)<=hi)(h4:hi < 2 ^ 62)
  (q:R (Itr lo (hi - lo).toNat) H):ai (ar X.prog X.w) X.A (i_ (.ref s.heap.objs.size)) (PIE X pins σ tg R) E { s with heap:=s.heap.push { cls:=.type "range",data:=.fields #[.int lo t,.int hi u,.int 1 v] },toks:=tk }:=by
 refine wpAny_pyIter_range (IsRange.new ..) (small_one h1 h2 h3 h4) ?_;have I1:Inv X pins σ H { s with heap:=s.heap.push { cls:=.type "range",data:=.fields #[.int lo t,.int hi u,.int 1 v] },toks:=tk }:=I.kept fun b o e=>b0 _ e;refine⟨(s.heap.push { cls:=.type "range",data:=.fields #[.int lo t,.int hi u,.int 1 v] }).objs.size,[(s.heap.push { cls:=.type "range",data:=.fields #[.int lo t,.int hi u,.int 1 v] }).objs.size],_,_,H,rfl,
  I1.kept (t':=tk) fun b o e=>b0 _ e,VD _ lo (hi - lo).toNat,?_,fun b hb=>?_,q⟩
 ·have e1:lo + ((0:Nat):Int) * 1=lo:=by simp
  have e2:(((hi - lo).toNat:Nat):Int) - ((0:Nat):Int)=cq.Range.rangeSize lo hi 1:=by rw[rangeSize_one];split <;> lia
  show IsRangeIter _ _ (lo + ((0:Nat):Int) * 1) ((((hi - lo).toNat:Nat):Int) - ((0:Nat):Int)) 1;rw[e1,e2];exact cy _ rfl
 ·have e:b=(s.heap.push { cls:=.type "range",data:=.fields #[.int lo t,.int hi u,.int 1 v] }).objs.size:=by simpa using hb
  subst e;exact I1.Qu (bj _) (I1.hok.fresh (bj _))
def ali(ta:TA):TI:=fun σ H R=>ta σ H fun vs H1=>∃j:Int,vs=[.int j]/\-(2 ^ 62)<=j/\j < 2 ^ 62/\R (Itr 0 j.toNat) H1
def alj(ta:TA):TI:=fun σ H R=>ta σ H fun vs H1=>∃i j:Int,vs=[.int i,.int j]/\(-(2 ^ 62)<=i/\i < 2 ^ 62/\-(2 ^ 62)<=j/\j < 2 ^ 62)/\R (Itr i (j - i).toNat) H1
theorem Je{a:ag}{ta:TA}{p pos:Pos}(hg:Gl X "range") (hm:X.mg "range"=none) (ha:PA X [a] ta) (hs:a9 [a] X.env=[(false,aS a X.env)]:=by rfl):PI X tg (.Call (.Name "range" p) [a] [] pos) (ali ta):=by
 intro pins s σ H R I h;refine Call_ (uY I hg hm boot_range (oQ (jD (ha pos pins s σ H _ I h) fun us s1 ⟨vs,H1,I1,r1,q1⟩=>?_) hs rfl));obtain⟨j,e,q1,q2,q⟩:=q1;subst e;cases r1 with
 |cons r rr =>
  cases rr;obtain⟨t,rfl⟩:=r;exact call_range_1 (Qw I1 (by lia) (by lia) q1 q2 (by simpa using q))
theorem aai{a b:ag}{ta:TA}{p pos:Pos}(hg:Gl X "range") (hm:X.mg "range"=none) (ha:PA X [a,b] ta) (hs:a9 [a,b] X.env=[(false,aS a X.env),(false,aS b X.env)]:=by rfl) (hs2:a9 [b] X.env=[(false,aS b X.env)]:=by rfl) :
  PI X tg (.Call (.Name "range" p) [a,b] [] pos) (alj ta):=by
 intro pins s σ H R I h;refine Call_ (uY I hg hm boot_range (oQ (jD (ha pos pins s σ H _ I h) fun us s1 ⟨vs,H1,I1,r1,q1⟩=>?_) (by rw[hs,hs2]) (by rw[hs2];rfl)));obtain⟨i,j,e,⟨q1,q2,q3,q4⟩,q⟩:=q1;subst e;cases r1 with
 |cons r rr =>
  cases rr with
  |cons r' rr =>
   cases rr;obtain⟨t,rfl⟩:=r;obtain⟨t',rfl⟩:=r';exact call_range_2 (Qw I1 q1 q2 q3 q4 q)
def anW(wi:TI)(g:TG)(tb:TS):TS:=fun D σ H=>wi σ H fun J H1=>∃W:Nat->Nat->St->Hp->Prop,(∃m,W 0 m σ H1)/\∀i m σ H,W i m σ H ->
 (J.stop i H/\D.nx σ H)∨(J.go i H/\∃N:St->Hp->Prop,(∀σ' H',N σ' H'->∃m',m' < m/\W (i + 1) m' σ' H')/\∀x H',J.yld i H x H'->g x σ H' fun σ2 H2=>tb { D with nx:=N,ct:=N,bk:=D.nx } σ2 H2)
def yp(fp:List ab)(h:Heap):List (ab×Obj):=fp.filterMap fun b=>(h.get? b).map fun o=>(b,o)
theorem qb{fp:List ab}{h:Heap}{b:ab}{o:Obj}(hb:b∈fp)(e:h.get? b=some o):(b,o)∈yp fp h:=iX.mpr ⟨b,hb,by rw[e];rfl⟩
theorem aaj{fp:List ab}{h:Heap}{p:ab×Obj}(hp:p∈yp fp h):p.1∈fp/\h.get? p.1=some p.2:=by
 obtain⟨b,hb,e⟩:=iX.mp hp;cases q:h.get? b with
 |none=>rw[q]at e;cases e
 |some o =>
  rw[q]at e;have e':(b,o)=p:=cz e;subst e';exact⟨hb,q⟩
theorem Inv.pinned{pins:List (ab×Obj)}{σ:St}{H:Hp}{s:ae}{fp:List ab}(I:Inv X pins σ H s)(hf:∀b∈fp,pZ X pins H b)(ho:∀b∈fp,∃o,s.heap.get? b=some o/\∀v,o.data≠.cell v):Inv X (pins++yp fp s.heap) σ H s :=
 I.Ck fun p hp=>(dq.mp hp).elim (fun z=>I.pin p (eA _ z)) fun z=>by obtain⟨hb,e⟩:=aaj z;obtain⟨f0,f1,f2,_⟩:=hf p.1 hb;obtain⟨o,e',d⟩:=ho p.1 hb;rw[e]at e';cases e';exact⟨e,f0,f1,f2,d⟩
theorem Inv.vR{pins pl:List (ab×Obj)}{σ:St}{H:Hp}{s:ae}(I:Inv X (pins++pl) σ H s):Inv X pins σ H s:=I.Ck fun p hp=>I.pin p (eA _ (kT _ hp))
theorem yq{iter:ag}{body:List be}{wi:TI}{g:TG}{tb:TS}{pos:Pos}(hp:ki (ar X.prog X.w) X.A X.env X.xe)(hc:X.calm=true)(hi:PI X tg iter wi)(hg:PG X tg g)(hb:Vx X body tb)
  (hs:∀x,fw iter X.env x=pure x:=by intro _;rfl):PS X (.For tg iter body [] pos) (anW wi g tb):=by
 intro pins s σ H D I h;refine wpAny_For (jD (hi pins s σ H _ I h) fun v s1 h1=>jD h1 fun itv s2 h2=>?_) hs;obtain⟨it,fp,tn,J,H2,e,I2,T,st2,f2,W,⟨m0,w0⟩,turn⟩:=h2;subst e;have stat:∀{H':Hp},(∀b∈fp,H' b=none)->∀b∈fp,pZ X pins H' b:=fun hn b hb=>⟨hn b hb,(f2 b hb).2⟩
 refine codeAny_forLoop_any (fun n s'=>∃i σ' H',Inv X pins σ' H' s'/\tn i s'.heap/\(∀b∈fp,H' b=none)/\W i n σ' H') ?_ m0 ⟨0,σ,H2,I2,st2,fun b hb=>(f2 b hb).1,w0⟩;rintro n s3 ⟨i,σ3,H3,I3,st3,fr3,w3⟩;rcases turn i n σ3 H3 w3 with ⟨stop,qn⟩|⟨go,N,hN,step⟩
 ·refine mT hp (jD (T.done X rfl rfl rfl hc i pins s3 σ3 H3 X.xe I3 (stat fr3) st3 stop) fun r s4 fV=>?_);obtain⟨hr,I4⟩:=fV;subst hr;exact se ⟨σ3,H3,I4,qn⟩
 ·refine mT hp (jD (T.item X rfl rfl rfl hc i pins s3 σ3 H3 X.xe I3 (stat fr3) st3 go) fun r s4 fV=>?_);obtain⟨u,hr,h4⟩:=fV;subst hr;refine mT hp (jD h4 fun _ s5 fV=>?_);obtain⟨x,H5,I5,r5,y5,st5,fr5⟩:=fV;have I5':=I5.pinned (stat fr5) (T.obj _ _ st5);refine mT hp (jD (hg _ s5 σ3 H5 x u _ I5' r5 (step x H5 y5)) fun _ s6 fV=>?_);obtain⟨σ6,H6,I6,q6⟩:=fV;refine mT hp (jD (hb _ s6 σ6 H6 _ I6 q6) fun f s7 q7=>?_);have again:∀{σ7:St}{H7:Hp},Inv X (pins++yp fp s5.heap) σ7 H7 s7->N σ7 H7->∃m,m < n/\∃i σ' H',Inv X pins σ' H' s7/\tn i s7.heap/\(∀b∈fp,H' b=none)/\W i m σ' H':=fun {σ7 H7} I7 n7=>by obtain⟨m',hm,w7⟩:=hN σ7 H7 n7;refine⟨m',hm,i + 1,σ7,H7,I7.vR,T.keep _ _ _ st5 fun b hb o e=>(I7.pin (b,o) (eA _ (eA _ (qb hb e)))).1,fun b hb=>?_,w7⟩;obtain⟨o,e,d⟩:=T.obj _ _ st5 b hb;exact(I7.pin (b,o) (eA _ (eA _ (qb hb e)))).2.1
  cases f with
  |next=>obtain⟨σ7,H7,I7,n7⟩:=q7;exact again I7 n7
  |cont=>obtain⟨σ7,H7,I7,n7⟩:=q7;exact again I7 n7
  |brk=>obtain⟨σ7,H7,I7,q7⟩:=q7;exact⟨σ7,H7,I7.vR,q7⟩
  |ret v=>obtain⟨x7,σ7,H7,I7,r7,q7⟩:=q7;exact⟨x7,σ7,H7,I7.vR,r7,q7⟩
end
theorem abG{K:ah}{a:ab}{xs:List V}{g:TG}{tb:TS}{D:Ends}{σ:St}{H:Hp}(Pv:Nat->St->Hp->Prop)(h0:Pv 0 σ H)(hl:∀i σ H,i<=xs.length->Pv i σ H->rG K H a xs)
  (hs:∀i x σ H,xs[i]?=some x->Pv i σ H->g x σ H fun σ2 H2=>tb { D with nx:=Pv (i + 1),ct:=Pv (i + 1),bk:=D.nx } σ2 H2) (hd:∀σ H,Pv xs.length σ H->D.nx σ H) :
  ∃W:Nat->Nat->St->Hp->Prop,(∃m,W 0 m σ H)/\∀i m σ H,W i m σ H ->
   ((Itl K a).stop i H/\D.nx σ H)∨((Itl K a).go i H/\∃N:St->Hp->Prop,(∀σ' H',N σ' H'->∃m',m' < m/\W (i + 1) m' σ' H')/\∀x H',(Itl K a).yld i H x H'->g x σ H' fun σ2 H2=>tb { D with nx:=N,ct:=N,bk:=D.nx } σ2 H2):=by
 refine⟨fun i m σ H=>m=xs.length - i/\i<=xs.length/\Pv i σ H,⟨xs.length,by simp,d7 _,h0⟩,?_⟩;rintro i m σ H ⟨rfl,hi,p⟩;have q:=hl i σ H hi p;by_cases hlt:i < xs.length
 ·refine .inr ⟨⟨xs,xs[i],q,by simp[hlt]⟩,Pv (i + 1),fun σ' H' p'=>⟨xs.length - (i + 1),by lia,rfl,hlt,p'⟩,fun x H' y=>?_⟩;obtain⟨e,y⟩:=y;subst e;exact hs i x σ _ (y xs q) p
 ·have e:i=xs.length:=by lia
  subst e;exact .inl ⟨⟨xs,q,bj _⟩,hd σ H p⟩
theorem afs{K:ah}{a:ab}{xs:List V}{g:TG}{tb:TS}{D:Ends}{σ:St}{H:Hp}(Pv:Nat->St->Hp->Prop)(h0:Pv 0 σ H)(hl:∀i σ H,i<=xs.length->Pv i σ H->pB K H a xs)
  (hs:∀i x σ H,xs[i]?=some x->Pv i σ H->g x σ H fun σ2 H2=>tb { D with nx:=Pv (i + 1),ct:=Pv (i + 1),bk:=D.nx } σ2 H2) (hd:∀σ H,Pv xs.length σ H->D.nx σ H) :
  ∃W:Nat->Nat->St->Hp->Prop,(∃m,W 0 m σ H)/\∀i m σ H,W i m σ H ->
   ((Itt K a).stop i H/\D.nx σ H)∨((Itt K a).go i H/\∃N:St->Hp->Prop,(∀σ' H',N σ' H'->∃m',m' < m/\W (i + 1) m' σ' H')/\∀x H',(Itt K a).yld i H x H'->g x σ H' fun σ2 H2=>tb { D with nx:=N,ct:=N,bk:=D.nx } σ2 H2):=by
 refine⟨fun i m σ H=>m=xs.length - i/\i<=xs.length/\Pv i σ H,⟨xs.length,by simp,d7 _,h0⟩,?_⟩;rintro i m σ H ⟨rfl,hi,p⟩;have q:=hl i σ H hi p;by_cases hlt:i < xs.length
 ·refine .inr ⟨⟨xs,xs[i],q,by simp[hlt]⟩,Pv (i + 1),fun σ' H' p'=>⟨xs.length - (i + 1),by lia,rfl,hlt,p'⟩,fun x H' y=>?_⟩;obtain⟨e,y⟩:=y;subst e;exact hs i x σ _ (y xs q) p
 ·have e:i=xs.length:=by lia
  subst e;exact .inl ⟨⟨xs,q,bj _⟩,hd σ H p⟩
theorem aak{lo:Int}{n:Nat}{g:TG}{tb:TS}{D:Ends}{σ:St}{H:Hp}(Pv:Nat->St->Hp->Prop)(h0:Pv 0 σ H)
  (hs:∀i σ H,i < n->Pv i σ H->g (.int (lo + i)) σ H fun σ2 H2=>tb { D with nx:=Pv (i + 1),ct:=Pv (i + 1),bk:=D.nx } σ2 H2) (hd:∀σ H,Pv n σ H->D.nx σ H) :
  ∃W:Nat->Nat->St->Hp->Prop,(∃m,W 0 m σ H)/\∀i m σ H,W i m σ H ->
   ((Itr lo n).stop i H/\D.nx σ H)∨((Itr lo n).go i H/\∃N:St->Hp->Prop,(∀σ' H',N σ' H'->∃m',m' < m/\W (i + 1) m' σ' H')/\∀x H',(Itr lo n).yld i H x H'->g x σ H' fun σ2 H2=>tb { D with nx:=N,ct:=N,bk:=D.nx } σ2 H2):=by
 refine⟨fun i m σ H=>m=n - i/\i<=n/\Pv i σ H,⟨n,by simp,d7 _,h0⟩,?_⟩;rintro i m σ H ⟨rfl,hi,p⟩;by_cases hlt:i < n
 ·refine .inr ⟨hlt,Pv (i + 1),fun σ' H' p'=>⟨n - (i + 1),by lia,rfl,hlt,p'⟩,fun x H' y=>?_⟩;obtain⟨e,y⟩:=y;subst e y;exact hs i σ _ hlt p
 ·have e:i=n:=by lia
  subst e;exact .inl ⟨bj _,hd σ H p⟩
abbrev R2:=V->V->Hp->VK->Prop
def uL(X:Cx)(f:aa->aa->Sem aa)(r:R2):Prop :=
 ∀(pins:List (ab×Obj)) (s:ae) (σ:St) (H:Hp) (x y:V) (v u:aa) (Q:VK),Inv X pins σ H s->RelV x v->RelV y u->r x y H Q ->
  ai (ar X.prog X.w) X.A (f v u) (EP X pins σ Q) X.xe s
def UnR(X:Cx)(f:aa->Sem aa)(r:V->Hp->VK->Prop):Prop :=
 ∀(pins:List (ab×Obj)) (s:ae) (σ:St) (H:Hp) (x:V) (v:aa) (Q:VK),Inv X pins σ H s->RelV x v->r x H Q ->
  ai (ar X.prog X.w) X.A (f v) (EP X pins σ Q) X.xe s
def iQ(X:Cx)(f:aa)(r:List V->Hp->VK->Prop):Prop :=
 ∀(pins:List (ab×Obj)) (s:ae) (σ:St) (H:Hp) (xs:List V) (us:List aa) (Q:VK),Inv X pins σ H s->Vals xs us->r xs H Q ->
  ai (ar X.prog X.w) X.A (call f us) (EP X pins σ Q) X.xe s
def tOp(r:R2)(ta tb:TE):TE:=fun σ H Q=>ta σ H fun x H1=>tb σ H1 fun y H2=>r x y H2 Q
def tUn(r:V->Hp->VK->Prop)(ta:TE):TE:=fun σ H Q=>ta σ H fun x H1=>r x H1 Q
def rI(C:Int->Int->Prop)(g:Int->Int->V):R2:=fun x y H Q=>∃i j,x=.int i/\y=.int j/\C i j/\Q (g i j) H
def rI0(g:Int->Int->V):R2:=fun x y H Q=>∃i j,x=.int i/\y=.int j/\Q (g i j) H
def rU(g:Int->V):V->Hp->VK->Prop:=fun x H Q=>∃i,x=.int i/\Q (g i) H
section
variable{X:Cx}{a b c:ag}{ta tb tc:TE}{pos:Pos}
theorem aix(ha:PE X a ta)(hb:PE X b tb){pins:List (ab×Obj)}{s:ae}{σ:St}{H:Hp}{R:V->V->Hp->Prop}(I:Inv X pins σ H s)
  (h:ta σ H fun x H1=>tb σ H1 fun y H2=>R x y H2) {Q:aa->ae->Prop}{f:aa->aa->Sem aa}
  (hf:∀v u s2 x y H2,Inv X pins σ H2 s2->RelV x v->RelV y u->R x y H2->ai (ar X.prog X.w) X.A (f v u) Q X.xe s2) :
  ai (ar X.prog X.w) X.A (aS a X.env) (fun v s₁=>ai (ar X.prog X.w) X.A (aS b X.env) (fun u s₂=>ai (ar X.prog X.w) X.A (f v u) Q X.xe s₂) X.xe s₁) X.xe s:=by
 refine jD (ha pins s σ H _ I h) fun v s1 fV=>?_;obtain⟨x,H1,I1,r1,q1⟩:=fV;refine jD (hb pins s1 σ H1 _ I1 q1) fun u s2 fV=>?_;obtain⟨y,H2,I2,r2,q2⟩:=fV;exact hf v u s2 x y H2 I2 r1 r2 q2
theorem ahy{op:Operator}{r:R2}(ho:uL X (gL op) r)(ha:PE X a ta)(hb:PE X b tb):PE X (.BinOp a op b pos) (tOp r ta tb):=by intro pins s σ H Q I h;exact wpAny_BinOp (aix ha hb I h fun v u s2 x y H2 I2 rx ry q=>ho pins s2 σ H2 x y v u Q I2 rx ry q)
theorem alk{op:UnaryOp}{r:V->Hp->VK->Prop}(ho:UnR X (unaryOp op) r)(ha:PE X a ta):PE X (.UnaryOp op a pos) (tUn r ta):=by intro pins s σ H Q I h;exact UnaryOp_ (jD (ha pins s σ H _ I h) fun v s1 ⟨x,H1,I1,r1,q1⟩=>ho pins s1 σ H1 x v Q I1 r1 q1)
theorem opI{f:aa->aa->Sem aa}{C:Int->Int->Prop}{g:Int->Int->Int}
  (rule:∀(i j:Int) (t u:Tok) (s:ae) (Q:aa->ae->Prop) (E:aa->ae->Prop),C i j->Q (.int (g i j) s.toks) { s with toks:=s.toks + 1 }->ai (ar X.prog X.w) X.A (f (.int i t) (.int j u)) Q E s) :
  uL X f (rI C fun i j=>.int (g i j)):=by
 intro pins s σ H x y v u Q I rx ry h;obtain⟨i,j,rfl,rfl,hc,q⟩:=h;obtain⟨t,rfl⟩:=rx;obtain⟨t',rfl⟩:=ry;exact rule i j t t' s _ _ hc ⟨.int (g i j),H,I.tok _,⟨_,rfl⟩,q⟩
theorem alm{f:aa->aa->Sem aa}{g:Int->Int->Int}
  (rule:∀(i j:Int) (t u:Tok) (s:ae) (Q:aa->ae->Prop) (E:aa->ae->Prop),Q (.int (g i j) s.toks) { s with toks:=s.toks + 1 }->ai (ar X.prog X.w) X.A (f (.int i t) (.int j u)) Q E s) :
  uL X f (rI0 fun i j=>.int (g i j)):=by
 intro pins s σ H x y v u Q I rx ry h;obtain⟨i,j,rfl,rfl,q⟩:=h;obtain⟨t,rfl⟩:=rx;obtain⟨t',rfl⟩:=ry;exact rule i j t t' s _ _ ⟨.int (g i j),H,I.tok _,⟨_,rfl⟩,q⟩
theorem aiy{f:aa->aa->Sem aa}{g:Int->Int->Bool}
  (rule:∀(i j:Int) (t u:Tok) (s:ae) (Q:aa->ae->Prop) (E:aa->ae->Prop),Q (.bool (g i j)) s->ai (ar X.prog X.w) X.A (f (.int i t) (.int j u)) Q E s) :
  uL X f (rI0 fun i j=>.bl (g i j)):=by
 intro pins s σ H x y v u Q I rx ry h;obtain⟨i,j,rfl,rfl,q⟩:=h;obtain⟨t,rfl⟩:=rx;obtain⟨t',rfl⟩:=ry;exact rule i j t t' s _ _ ⟨.bl (g i j),H,I,rfl,q⟩
def abH(i j:Int):Prop:=0<=j/\j<=1000000/\i.natAbs < 2 ^ 64
def VF(i j:Int):Prop:=(-(2 ^ 64) < i/\i < 2 ^ 64)∨(-(2 ^ 64) < j/\j < 2 ^ 64)
theorem VF.ok{i j:Int}(h:VF i j):IntMulOk i j:=by
 rcases h with ⟨h1,h2⟩|⟨h1,h2⟩
 ·exact .of_left (intBits_le_64 h1 h2)
 ·exact .of_right (intBits_le_64 h1 h2)
theorem aiz:uL X (gL .Add) (rI0 fun i j=>.int (i + j)):=alm fun _ _ _ _ _ _ _ q=>add_int q
theorem abI:uL X (gL .Sub) (rI0 fun i j=>.int (i - j)):=alm fun _ _ _ _ _ _ _ q=>sub_int q
theorem abJ:uL X (gL .Mult) (rI VF fun i j=>.int (i * j)):=opI fun _ _ _ _ _ _ _ hc q=>mul_int q hc.ok
theorem aiA:uL X (gL .Mod) (rI (fun _ j=>0 < j) fun i j=>.int (i % j)):=opI fun i j _ _ _ _ _ hc q=>by have h1:(0:Int) < j:=hc;exact mod_int' (by lia) (by rw[Int.fmod_eq_emod_of_nonneg i (by lia)];exact q)
theorem aiB:uL X (gL .Pow) (rI abH fun i j=>.int (i ^ j.toNat)):=opI fun _ _ _ _ _ _ _ hc q=>pow_int_small hc.1 hc.2.1 hc.2.2 q
theorem unI{f:aa->Sem aa}{g:Int->Int}
  (rule:∀(i:Int) (t:Tok) (s:ae) (Q:aa->ae->Prop) (E:aa->ae->Prop),Q (.int (g i) s.toks) { s with toks:=s.toks + 1 }->ai (ar X.prog X.w) X.A (f (.int i t)) Q E s) :
  UnR X f (rU fun i=>.int (g i)):=by
 intro pins s σ H x v Q I rx h;obtain⟨i,rfl,q⟩:=h;obtain⟨t,rfl⟩:=rx;exact rule i t s _ _ ⟨.int (g i),H,I.tok _,⟨_,rfl⟩,q⟩
theorem aiC:UnR X (unaryOp .USub) (rU fun i=>.int (-i)):=unI fun _ _ _ _ _ q=>neg_int q
end
section
variable{X:Cx}{a b c:ag}{ta tb tc:TE}{pos:Pos}
theorem aln:uL X (eR .Lt) (rI0 fun i j=>.bl (decide (i < j))):=aiy fun _ _ _ _ _ _ _ q=>lt_int q
theorem alo:uL X (eR .Gt) (rI0 fun i j=>.bl (decide (j < i))):=aiy fun _ _ _ _ _ _ _ q=>gt_int q
theorem alp:uL X (eR .GtE) (rI0 fun i j=>.bl (decide (j<=i))):=aiy fun _ _ _ _ _ _ _ q=>ge_int q
theorem uL.or{f:aa->aa->Sem aa}{r r':R2}(h:uL X f r)(h':uL X f r'):uL X f (fun x y H Q=>r x y H Q∨r' x y H Q):=by
 intro pins s σ H x y v u Q I rx ry q;rcases q with q|q
 ·exact h pins s σ H x y v u Q I rx ry q
 ·exact h' pins s σ H x y v u Q I rx ry q
theorem qd(b:ag){op:i3}(h:op≠.In:=by decide)(h2:op≠.NotIn:=by decide):ij op b=false:=by
 have e1:(op == i3.In)=false:=by cases op <;> first|rfl|exact absurd rfl h
 have e2:(op == i3.NotIn)=false:=by cases op <;> first|rfl|exact absurd rfl h2
 cases b <;> simp[ij,e1,e2]
theorem Yu{op:i3}{r:R2}(ho:uL X (eR op) r)(ha:PE X a ta)(hb:PE X b tb)(hm:ij op b=false):PE X (.Compare a [op] [b] pos) (tOp r ta tb):=by intro pins s σ H Q I h;exact wpAny_Compare1 (aix ha hb I h fun v u s2 x y H2 I2 rx ry q=>ho pins s2 σ H2 x y v u Q I2 rx ry q) hm
def alq(t:TE):TT:=fun σ H Q=>t σ H fun x H'=>∃k,x=.bl k/\Q k H'
theorem KC{op:i3}{r:R2}(ho:uL X (eR op) r)(ha:PE X a ta)(hb:PE X b tb)(hm:ij op b=false):PT X (.Compare a [op] [b] pos) (alq (tOp r ta tb)):=by
 intro pins s σ H Q I h;refine wpAny_isTrue_Compare1 (jD (ha pins s σ H _ I h) fun v s1 ⟨x,H1,I1,r1,q1⟩=>jD (hb pins s1 σ H1 _ I1 q1) fun u s2 ⟨y,H2,I2,r2,q2⟩ =>
  jD (ho pins s2 σ H2 x y v u _ I2 r1 r2 q2) fun c s3 ⟨z,H3,I3,r3,k,e,q3⟩=>?_) hm
 subst e;cases r3;exact kU ⟨H3,I3,q3⟩
theorem Dd:(sizeLine:Nat) < 2 ^ 63:=by rw[dA];decide
theorem Yv{x:V}{us:List aa}(r:Vals [x] us):∃u,us=[u]/\RelV x u:=by
 cases r with
 |cons r1 r2=>cases r2;exact⟨_,rfl,r1⟩
theorem alr{x y:V}{us:List aa}(r:Vals [x,y] us):∃u w',us=[u,w']/\RelV x u/\RelV y w':=by
 cases r with
 |cons r1 r2 =>
  cases r2 with
  |cons r3 r4=>cases r4;exact⟨_,_,rfl,r1,r3⟩
theorem aal:iQ X (.type "int") (fun xs H Q=>(∃i,xs=[.int i]/\Q (.int i) H)∨∃k,xs=[.bl k]/\Q (.int (if k then 1 else 0)) H):=by
 intro pins s σ H xs us Q I r h;rcases h with ⟨i,rfl,q⟩|⟨k,rfl,q⟩
 ·obtain⟨u,rfl,t,rfl⟩:=Yv r;exact call_int_int ⟨.int i,H,I,⟨_,rfl⟩,q⟩
 ·obtain⟨u,rfl,r1⟩:=Yv r;cases r1;exact call_int_bool ⟨.int (if k then 1 else 0),H,I.tok _,⟨_,rfl⟩,q⟩
end
structure aqo (h:Heap)(x dx C:ab)(mA:Str->Option aa):Prop where
 obj:h.get? x=some (PySem.W.instObj C dx)
 ns:h.Ns1 dx mA
 ne:dx≠x
section
variable{prog:aE}{w:ay}{A:a8}{E:aa->ae->Prop}{s:ae}{K:ah}{x dx C f:ab}{mA:Str->Option aa}{name:Str}{v:aa}
end
section
variable{P:aE}{w:ay}{H H':Hp}{h h':Heap}{a C dx:ab}{fs fs':List (Str×V)}
end
structure Cls (K:ah)(C:ab):Prop where
 pg:PySem.W.plainGet K C Str.empty=true
 hd:PySem.W.hasDictIn K C=true
 po:PySem.W.plainOver K C=true
 sa:m6 K (.ref C) "__setattr__"=some (some (.builtin "object.__setattr__"))
structure Con (K:ah)(C:ab)(f:Str)(v:V)(u:aa):Prop where
 at_:m6 K (.ref C) f=some (some u)
 rel:RelV v u
 get:PySem.W.specialIn K u "__get__"=some none
 cp:PySem.W.copiedNames.contains f=false
structure Meth (K:ah)(C:ab)(m:Str)(f:ab):Prop where
 at_:m6 K (.ref C) m=some (some (.ref f))
 fn:PySem.W.isFn K (.ref f)=true
 kp:f_ K (.ref f)=true
section
variable{X:Cx}{pins:List (ab×Obj)}{σ:St}{H:Hp}{s:ae}{a C dx:ab}{fs:List (Str×V)}{f:Str}{v:V}{A:a8}{E:aa->ae->Prop}
end
section
variable{X:Cx}{o e value:ag}{f:Str}{pos pos' tpos:Pos}{ta tv:TE}
end
section
variable{X:Cx}{pins:List (ab×Obj)}{σ:St}{H:Hp}{s:ae}{A:a8}{E:aa->ae->Prop}{Q:aa->ae->Prop}{c:aa}{b:Bool}
inductive Df (K:ah) (H:Hp):V->aa->Prop where
 |non:Df K H .non (.type "NoneType")
 |bl (x:Bool):Df K H (.bl x) (.type "bool")
 |int (i:Int):Df K H (.int i) (.type "int")
 |str (x:Str):Df K H (.str x) (.type "str")
 |flt (x:UInt64):Df K H (.flt x) (.type "float")
 |lst {a:ab}{xs:List V}(e:H a=some (.lst xs)):Df K H (.ref a) (.type "list")
 |CT {a:ab}{o:Obj}{xs:List V}(e:H a=some (.CT o (.lst xs))):Df K H (.ref a) (.type "list")
 |tup {a:ab}{xs:List V}(e:H a=some (.tup xs)):Df K H (.ref a) (.type "tuple")
 |dK {a:ab}{kvs:List (Qn×V)}(e:H a=some (.dK kvs)):Df K H (.ref a) (.type "dict")
 |dT {a:ab}{kvs:List (List Qn×V)}(e:H a=some (.dT kvs)):Df K H (.ref a) (.type "dict")
 |ins {a C dx:ab}{fs:List (Str×V)}(e:H a=some (.ins C dx fs)) (cl:Cls K C) (ha:m6 K (.ref C) "__class__"=some (some (.builtin "object.__class__")))
   (hn:PySem.W.specialIn K (.builtin "object.__class__") "__get__"=some (some (.builtin "getset_descriptor.__get__"))) (htk:PySem.W.takesIn K (.builtin "object.__class__")=some true)
   (hm:PySem.W.mroIn K C (.type "object")=some true):Df K H (.ref a) (.ref C)
end
structure lJ (k:Nat)(A:a8):Prop where
 hd:A.handled=none
 dp:A.depth + 3 * k + 5 < sg
 un:A.units + 16 * k + 200 < bo
theorem lJ.mono{j k:Nat}{A:a8}(r:lJ k A)(h:j<=k):lJ j A:=⟨r.hd,by have:=r.dp;lia,by have:=r.un;lia⟩
theorem lJ.deeper{k:Nat}{A:a8}(r:lJ (k + 1) A)(env:Env):lJ k (A.deeper env) :=
 ⟨r.hd,by have:=r.dp;show A.depth + 1 + 3 * k + 5 < _;lia,by have:=r.un;show A.units + 3 + 16 * k + 200 < _;lia⟩
theorem lJ.depth{k:Nat}{A:a8}(r:lJ k A):A.depth < sg:=by have:=r.dp;lia
def aiD:TA:=fun _ H Q=>Q [] H
def abK(ta:TE)(tr:TA):TA:=fun σ H Q=>ta σ H fun x H1=>tr σ H1 fun xs H2=>Q (x::xs) H2
section
variable{X:Cx}{e:ag}{es:List ag}{te:TE}{t:TA}{pos:Pos}
theorem gP:PA X [] aiD:=fun _ _ _ _ H Q I h=>Calls.spliced_nil ⟨[],H,I,.nil,h⟩
theorem dg(ha:PE X e te)(hr:PA X es t)(hs:a9 (e::es) X.env=(false,aS e X.env)::a9 es X.env:=by rfl):PA X (e::es) (abK te t):=by
 intro pos pins s σ H Q I h;rw[hs];show ai _ _ (spliced ((false,aS e X.env)::c6 pos (a9 es X.env))) _ _ s;refine Calls.spliced_cons (jD (ha pins s σ H _ I h) fun u s1 fV=>?_);obtain⟨x,H1,I1,r1,q1⟩:=fV;exact jD (hr pos pins s1 σ H1 _ I1 q1) fun us s2 ⟨xs,H2,I2,r2,q2⟩=>⟨x::xs,H2,I2,.cons r1 r2,q2⟩
def aoa(t:TA):TE:=fun σ H Q=>t σ H fun xs H1=>xs.length<=sizeLine/\∀p,H1 p=none->Q (.ref p) (upd H1 p (.tup xs))
def aob(t:TA):TE:=fun σ H Q=>t σ H fun xs H1=>xs.length<=sizeLine/\∀p,H1 p=none->Q (.ref p) (upd H1 p (.lst xs))
theorem abL{x1}(h:PA X es t):PE X (.Tuple es x1 pos) (aoa t):=by intro pins s σ H Q I hq;refine wpAny_Tuple_spliced (jD (h pos pins s σ H _ I hq) fun us s1 ⟨xs,H1,I1,r,z,q⟩=>⟨by rw[<- r.length];exact z,?_⟩);have hf:H1 s1.heap.objs.size=none:=I1.hok.fresh (bj _);refine⟨.ref s1.heap.objs.size,upd H1 s1.heap.objs.size (.tup xs),I1.laid (t':=s1.toks) (fun b u e=>b0 _ e) (bj _) ?_,rfl,q _ hf⟩;exact⟨z,us,r,⟨_,cy _ rfl,rfl,_,rfl⟩⟩
theorem VG(h:PA X es t):PE X (.List es pos) (aob t):=by intro pins s σ H Q I hq;refine wpAny_List_spliced (jD (h pos pins s σ H _ I hq) fun us s1 ⟨xs,H1,I1,r,z,q⟩=>⟨by rw[<- r.length];exact z,?_⟩);have hf:H1 s1.heap.objs.size=none:=I1.hok.fresh (bj _);refine⟨.ref s1.heap.objs.size,upd H1 s1.heap.objs.size (.lst xs),I1.laid (t':=s1.toks) (fun b u e=>b0 _ e) (bj _) ?_,rfl,q _ hf⟩;exact⟨z,us,0,r,cy _ rfl⟩
end
abbrev Sp:=List V->Hp->VK->XK->Prop
abbrev CXT:=List Env->Hp->ae->XK->aa->ae->Prop
structure aft (P:aE)(w:ay)(K:ah)(mg:Str->Option aa)(base:Heap)(A:a8)(outer:List Env)(s:ae)(H:Hp):Prop where
 frames:A.frames=some outer
 mod:Mod K mg base
 bs:∀b o,base.get? b=some o->s.heap.get? b=some o/\H b=none
 bsz:base.objs.size<=s.heap.objs.size
 CZ:s.heap.FunFrames base outer
 frf:∀b∈pA outer,H b=none
 hok:yg P w H s.heap
 bare:kc s.gens
def CE(outer:List Env)(P:aE)(w:ay)(H:Hp)(s:ae)(Q:VK)(u:aa)(s':ae):Prop :=
 ∃v H',s'.os=s.os/\kc s'.gens/\Un (pA outer) [] H H' s.heap s'.heap/\yg P w H' s'.heap/\RelV v u/\Q v H'
def CR(CX:CXT)(outer:List Env)(P:aE)(w:ay)(H:Hp)(s:ae)(Q:VK)(E:XK)(r:Result)(s':ae):Prop :=
 match r with
 | .ok (.ret u)=>CE outer P w H s Q u s'
 | .ok _=>False
 | .error e=>CX outer H s E e s'
structure GF (P:aE)(w:ay)(K:ah)(mg:Str->Option aa)(base:Heap)(CX:CXT)(k:Nat)(f:ab)(fd:b9)(ps:List Str)(sp:Sp):Prop where
 len:∀vs H Q E,sp vs H Q E->vs.length=ps.length
 run:∀(A:a8) (outer:List Env) (s:ae) (H:Hp) (args:Args) (us:List aa) (vs:List V) (Q:VK) (E:XK),lJ k A->aft P w K mg base A outer s H->k0 s fd args (ps.zip us)->Vals vs us->sp vs H Q E ->
  fx (ar P w) A (.call (.ref f) args) (CR CX outer P w H s Q E) s
section
variable{X:Cx}{pins:List (ab×Obj)}{σ:St}{H:Hp}{s s':ae}
theorem Inv.env0(I:Inv X pins σ H s):aft X.prog X.w X.K X.mg X.base X.A X.stack s H :=
 ⟨I.ok.frames,I.ok.mod,I.bs,cx I.ok.bsz I.sz,I.stack,I.Cj,I.hok,I.bare⟩
theorem Inv.after{Q:VK}{u:aa}(I:Inv X pins σ H s)(h:CE X.stack X.prog X.w H s Q u s'):EP X pins σ Q u s':=by obtain⟨v,H',os,bare,un,hok,r,q⟩:=h;obtain⟨hh,g,d,t,os'⟩:=s';obtain rfl:os'=s.os:=os;exact⟨v,H',I.call (h':=hh) (g':=g) (d':=d) (t':=t) (ch:=[]) un hok bare (fun b z=>absurd z (by simp)),r,q⟩
end
def Binds(K:ah)(fd:b9)(ps:List Str)(ds:List aa):Prop :=
 ∀(s:ae) (us:List aa),K.In s.heap->(us++ds).length=ps.length->k0 s fd ⟨us,[]⟩ (ps.zip (us++ds))
theorem Binds.all{K:ah}{fd:b9}{ps:List Str}(h:∀us:List aa,us.length=ps.length->bindArgs fd ⟨us,[]⟩=pure (ps.zip us)):Binds K fd ps []:=fun s us _ hl=>by rw[gc]at hl ⊢;exact .of_eq (h us hl)
section
variable{X:Cx}{CX:CXT}{k:Nat}{f C:ab}{fd:b9}{ps:List Str}{sp:Sp}{dvs:List V}{ds:List aa}{E:XK}{x m:Str}{p pos apos:Pos}{e o:ag}{es:List ag}{ta:TE}{t:TA}
structure Mk (K:ah)(C f:ab):Prop where
 makes:PySem.W.makesIn K C=true
 init:m6 K (.ref C) "__init__"=some (some (.ref f))
 fn:PySem.W.isFn K (.ref f)=true
 kp:f_ K (.ref C)=true
end
section
variable{X:Cx}{CX:CXT}{k:Nat}{f C:ab}{fd:b9}{ps ks:List Str}{sp:Sp}{E:XK}{x m:Str}{p pos apos kpos:Pos}{e o:ag}{es:List ag}{kws:List i4}{te ta:TE}{t tk:TA}{nm:Option Str}
structure aoc (K:ah)(fd:b9)(ps ks:List Str)(g:List aa->List aa->List aa)(gV:List V->List V->List V):Prop where
 to:∀(s:ae) (us ws:List aa),K.In s.heap->(g us ws).length=ps.length->k0 s fd ⟨us,ks.zip ws⟩ (ps.zip (g us ws))
 rel:∀{vs:List V}{us:List aa}{zs:List V}{ws:List aa},Vals vs us->Vals zs ws->Vals (gV vs zs) (g us ws)
variable{g:List aa->List aa->List aa}{gV:List V->List V->List V}
end
structure bQ (N P:List Str)(sc:Scope):Prop where
 kind:sc.kind=.function
 co:sc.isCoroutine=false
 gen:sc.isGenerator=false
 nd:N.Nodup
 pre:N.take P.length=P
 par:∀x∈P,sc.names.lookup x=some .local∨sc.names.lookup x=some .cell
 aiE:∀y∈sc.names,y.2≠.free
theorem Jf{kindOf:Str->Option d3}{x:Str}:∀{binds:List (Str×aa)}{m:Str->Option aa},(∀v,(x,v)∉binds)->ja kindOf binds m x=m x
 | [],_,_=>rfl
 | (n,v)::r,m,h=>by
  unfold ja;rw[Jf fun w hw=>h w (dt _ hw)];split
  ·have:x≠n:=by rintro rfl;exact h v df
   simp[this]
  ·rfl
theorem Jg{kindOf:Str->Option d3}{x:Str}:∀{binds:List (Str×aa)}{m:Str->Option aa},(∀v,(x,v)∉binds)->jb kindOf binds m x=m x
 | [],_,_=>rfl
 | (n,v)::r,m,h=>by
  unfold jb;rw[Jg fun w hw=>h w (dt _ hw)];split
  ·rfl
  ·have:x≠n:=by rintro rfl;exact h v df
   simp[this]
theorem Jh{kindOf:Str->Option d3}{x:Str}{v:aa}:∀{P:List Str}{vs:List aa}{i:Nat}{m:Str->Option aa},P.Nodup->P[i]?=some x->vs[i]?=some v->kindOf x=some .local ->
  ja kindOf (P.zip vs) m x=some v
 | [],_,_,_,_,h,_,_=>by simp at h
 |_::_,[],_,_,_,_,h,_=>by simp at h
 |p::P,w::vs,0,m,nd,h1,h2,hk=>by simp at h1 h2;subst h1;subst h2;show ja kindOf ((p,w)::P.zip vs) m p=_;unfold ja;rw[Jf fun v hv=>(jn.mp nd).1 (si hv).1,if_pos hk];simp
 |p::P,w::vs,i + 1,m,nd,h1,h2,hk=>by show ja kindOf ((p,w)::P.zip vs) m x=_;unfold ja;exact Jh (i:=i) (jn.mp nd).2 (by simpa using h1) (by simpa using h2) hk
theorem Ji{kindOf:Str->Option d3}{x:Str}{v:aa}:∀{P:List Str}{vs:List aa}{i:Nat}{m:Str->Option aa},P.Nodup->P[i]?=some x->vs[i]?=some v->kindOf x≠some .local ->
  jb kindOf (P.zip vs) m x=some v
 | [],_,_,_,_,h,_,_=>by simp at h
 |_::_,[],_,_,_,_,h,_=>by simp at h
 |p::P,w::vs,0,m,nd,h1,h2,hk=>by simp at h1 h2;subst h1;subst h2;show jb kindOf ((p,w)::P.zip vs) m p=_;unfold jb;rw[Jg fun v hv=>(jn.mp nd).1 (si hv).1,if_neg hk];simp
 |p::P,w::vs,i + 1,m,nd,h1,h2,hk=>by show jb kindOf ((p,w)::P.zip vs) m x=_;unfold jb;exact Ji (i:=i) (jn.mp nd).2 (by simpa using h1) (by simpa using h2) hk
def start(N:List Str)(vs:List V):St:=vs.map some++gd (N.length - vs.length) none
def rM(CX:CXT)(P:aE)(w:ay)(K:ah)(mg:Str->Option aa)(base:Heap)(N:List Str)(qual:Str)(scope:Scope)(f:ab)(cd:aa)(A:a8)(outer:List Env)(s:ae)(H:Hp)(E:XK):Cx where
 prog:=P
 w:=w
 K:=K
 mg:=mg
 base:=base
 A:=A.deeper (jv qual scope s.heap.objs.size f cd)
 N:=N
 s₀:=s
 H₀:=H
 env:=jv qual scope s.heap.objs.size f cd
 outer:=outer
 stack:=jv qual scope s.heap.objs.size f cd::outer
 ex:=[]
 calm:=true
 fn:=fun _=>true
 pn:=[]
 xe:=fun e s'=>ai (ar P w) (A.deeper (jv qual scope s.heap.objs.size f cd)) (leaving (jv qual scope s.heap.objs.size f cd) e) (fun _ s''=>CX outer H s E e s'') (fun e' s''=>CX outer H s E e' s'') s'
theorem Qx{sc:Scope}{n:Nat}{x:Str}(h:sc.names.lookup x=some .cell):∃c,(cellsFrom n sc.names []).lookup x=some c:=by have q:=PySem.W.cellsFrom_some sc.names n [] (.inl h);exact Option.isSome_iff_exists.mp q
theorem aam{CX:CXT}{P:aE}{w:ay}{K:ah}{mg:Str->Option aa}{base:Heap}{N ps:List Str}{qual:Str}{scope:Scope}{f:ab}{cd:aa}{A:a8}{outer:List Env}{s s1:ae}{H:Hp}{E:XK}{us:List aa}{vs:List V}
  (S:bQ N ps scope) (hd:A.handled=none) (e0:aft P w K mg base A outer s H) (hl:vs.length=ps.length) (r:Vals vs us)
  (x:InCallC s s.heap.objs.size (ja (jv qual scope s.heap.objs.size f cd).kindOf (ps.zip us) fun _=>none) (cellsFrom (s.heap.objs.size + 1) scope.names []) (jb (jv qual scope s.heap.objs.size f cd).kindOf (ps.zip us) fun _=>none) s1) :
  Inv (rM CX P w K mg base N qual scope f cd A outer s H E) [] (start N vs) H s1:=by
 have hpl:ps.length<=N.length:=by have:=congrArg eI S.pre;rw[km]at this;lia
 obtain⟨h1,tk,rfl,hk⟩:=x.done;have noA:∀b:ab,b∉(rM CX P w K mg base N qual scope f cd A outer s H E).ex:=fun b z=>absurd (show b∈([]:List ab) from z) (by simp);refine⟨⟨e0.mod,S.kind,rfl,rfl,bj _,fun y z c h1 h2=>?_,fun y hy=>?_,fun y c _ h=>?_,fun _=>hd,a8.frames_deeper e0.frames,.inr ⟨rfl,rfl⟩,fun b z=>absurd z (noA b),e0.bs,e0.bsz,fun b _ _=>noA b,fun b z=>absurd z (noA b),e0.CZ,e0.frf⟩,
  rfl,e0.bare,Un.kept hk,⟨_,x.toInCall.ns,fun i y v h1 h2 h3=>?_⟩,fun y c h=>⟨_,x.cell y c h⟩,e0.hok.fresh (bj _),fun y c h=>?_,fun p hp=>absurd (show p∈([]:List (ab×Obj)) from hp) (by simp),e0.hok.kept hk,?_⟩
 ·exact name_of_addr x.apart (gf h1) (gf h2)
 ·have hy:scope.names.lookup y=some .cell∨scope.names.lookup y=some .free:=hy;rcases hy with hy|hy
  ·exact Qx hy
  ·exact absurd rfl (S.aiE _ (gf hy))
 ·exact fv (x.above y c (gf h))
 ·have hi:i < vs.length:=by
   unfold start at h2;by_cases hi:i < vs.length
   ·exact hi
   ·rw[gi (by simpa using hi)]at h2;rw[jI]at h2;split at h2 <;> cases h2
  have ha:vs[i]?=some v:=by
   unfold start at h2;rw[fy (by simpa using hi),cf]at h2;cases e:vs[i]? with
   |none=>rw[e]at h2;cases h2
   |some a=>rw[e]at h2;cases h2;rfl
  obtain⟨u,hu,rv⟩:=r.get ha;have hp:ps[i]?=some y:=by rw[<- S.pre,k6 (by lia)];exact h1
  have ndP:ps.Nodup:=by rw[<- S.pre];exact S.nd.sublist (m8 _ _)
  refine⟨u,rv,?_⟩;rcases S.par y (ko hp) with k|k
  ·exact .inl ⟨k,Jh ndP hp hu k⟩
  ·obtain⟨c,e⟩:=Qx (n:=s.heap.objs.size + 1) k;refine .inr ⟨.inl k,c,e,?_⟩;have q:=x.cell y c e;rw[Ji ndP hp hu (by show scope.names.lookup y≠_;rw[k];decide)]at q;exact q
 ·exact e0.hok.fresh (fv (x.above y c (gf h)))
 ·unfold start;show _=N.length;rw[dC,b8,m9];lia
theorem Yw{CX:CXT}{P:aE}{w:ay}{K:ah}{mg:Str->Option aa}{base:Heap}{k:Nat}{f:ab}{name qual:Str}{params:k7}{body:List be}{scope:Scope}{dV kV doc pm cdv ct oc:aa}{an od:Option ab}
  {osl:Array (Option aa)}{N ps:List Str}{sp:Sp}(lk:K.lookup f=some ⟨oc,od,.func (eJ name qual params body scope dV kV doc pm an cdv ct),osl⟩) (hcd:k8 K cdv qual=true) (S:bQ N ps scope)
  (len:∀vs H Q E,sp vs H Q E->vs.length=ps.length)
  (hbody:∀(A:a8) (outer:List Env) (s:ae) (H:Hp) (vs:List V) (Q:VK) (E:XK),lJ k (A.deeper (jv qual scope s.heap.objs.size f cdv))->sp vs H Q E ->
   ∃t,Vx (rM CX P w K mg base N qual scope f cdv A outer s H E) body t/\t { nx:=fun _ H'=>Q .non H',rt:=Q } (start N vs) H) :
  GF P w K mg base CX (k + 1) f (eJ name qual params body scope dV kV doc pm an cdv ct) ps sp:=by
 refine⟨len,fun A outer s H args us vs Q E hr e0 hb r hsp=>?_⟩;have hl:=len _ _ _ _ hsp;have KX:K.In s.heap:=e0.mod.kin.keeps fun b o e=>(e0.bs b o e).1;have lim:s.heap.NoLimit:=e0.mod.nolimit.keeps fun b o e=>(e0.bs b o e).1;have hkind:∀y∈ps.zip us,scope.names.lookup y.1=some .local∨(scope.names.lookup y.1=some .cell/\((cellsFrom (s.heap.objs.size + 1) scope.names []).lookup y.1).isSome=true):=fun⟨n,v⟩ hy=>by
  rcases S.par n (si hy).1 with q|q
  ·exact .inl q
  ·exact .inr ⟨q,PySem.W.cellsFrom_some _ _ _ (.inl q)⟩
 refine codeAny_call_function hr.depth (KX _ _ lk) rfl S.co S.gen rfl (PySem.W.codeRec_of KX hcd) (hb _ _ _ _ ?_);refine wpAny_newFunctionEnv_cells S.kind hkind fun env he s1 x=>?_;subst he;refine⟨lim.keeps x.toInCall.keep,codeAny_func ?_⟩;obtain⟨t,ht,hq⟩:=hbody A outer s H vs Q E (hr.deeper _) hsp;have I:Inv (rM CX P w K mg base N qual scope f cdv A outer s H E) [] (start N vs) H s1:=aam S hr.hd e0 hl r x;refine dQ (ht [] s1 (start N vs) H _ I hq) (fun fl s' hs=>?_) fun e s' hs=>hs;have gD:∀{σ':St}{H':Hp}{v:V}{u:aa},Inv (rM CX P w K mg base N qual scope f cdv A outer s H E) [] σ' H' s'->RelV v u->Q v H'->CE outer P w H s Q u s' :=
  fun {σ' H' v u} J rv q=>⟨v,H',J.os,J.bare,J.base,J.hok,rv,q⟩
 cases fl with
 |ret u =>
  obtain⟨v,σ',H',J,rv,q⟩:=hs;exact gD J rv q
 |next =>
  obtain⟨σ',H',J,q⟩:=hs;exact gD (v:=V.non) (u:=aa.none) J rfl q
 |brk =>
  obtain⟨_,_,_,q⟩:=hs;exact fE q
 |cont =>
  obtain⟨_,_,_,q⟩:=hs;exact fE q
section
variable{X:Cx}{x:Str}{p pos:Pos}{e:ag}{es:List ag}{t:TA}{id T:String}{r:List V->Hp->VK->Prop}
def tCB(r:List V->Hp->VK->Prop)(t:TA):TE:=fun σ H Q=>t σ H fun vs H1=>r vs H1 Q
theorem nu(hc:iQ X (.builtin id) r) (hg:Gl X x) (hm:X.mg x=none) (hv:ic x=some (.builtin id)) (ha:PA X (e::es) t) (hn:x≠"__name__":=by decide) (hdb:(x == ("__debug__":Str))=false:=by decide)
  (he:a9 (e::es) X.env=(false,aS e X.env)::a9 es X.env:=by rfl) (hpl:(c6 pos (a9 es X.env)).any (·.1)=false:=by rfl):PE X (.Call (.Name x p) (e::es) [] pos) (tCB r t):=by
 intro pins s σ H Q I h;refine m_ (uY I hg hm hv ?_ hn hdb);exact PyProof.Rows.callWith_builtin1 (jD (ha pos pins s σ H _ I h) fun us s1 ⟨vs,H1,I1,r1,q1⟩=>hc pins s1 σ H1 vs us Q I1 r1 q1) he hpl
theorem yr(hc:iQ X (.type T) r) (hg:Gl X x) (hm:X.mg x=none) (hv:ic x=some (.type T)) (ha:PA X (e::es) t) (hn:x≠"__name__":=by decide) (hdb:(x == ("__debug__":Str))=false:=by decide)
  (he:a9 (e::es) X.env=(false,aS e X.env)::a9 es X.env:=by rfl) (hpl:(c6 pos (a9 es X.env)).any (·.1)=false:=by rfl):PE X (.Call (.Name x p) (e::es) [] pos) (tCB r t):=by
 intro pins s σ H Q I h;refine m_ (uY I hg hm hv ?_ hn hdb);exact oQ (jD (ha pos pins s σ H _ I h) fun us s1 ⟨vs,H1,I1,r1,q1⟩=>hc pins s1 σ H1 vs us Q I1 r1 q1) he hpl
end
end L2
namespace HT
open PySem PyProof.Rows
section
open PySem.SeqAt
open PySem.AutoSeq1 (wpAny_loadPart')
open PySem.MeetsSeq PySem.MeetsSeq2 PySem.MeetsSeq3
end
section
variable{prog:aE}{w:ay}{A:a8}{E:aa->ae->Prop}{s:ae}
def sIx(n d:Nat):Option Int->Nat
 |none=>d
 |some v=>if v < 0 then (v + (n:Int)).toNat else min v.toNat n
end
end HT
namespace L2
open PySem PySem.Spec PyProof.Rows
abbrev TO:=St->Hp->(Option Int->Hp->Prop)->Prop
theorem VH{ns:List Int}:∀{us:List aa},Vals (ns.map V.int) us->nc us ns:=by
 induction ns with
 |nil=>intro us r;rw[kq]at r;cases r;exact .nil
 |cons n ns ih =>
  intro us r;rw[b_]at r;cases r with
  |cons r1 r2 =>
   obtain⟨t,e⟩:=r1;subst e;exact .cons n t (ih r2)
section
variable{X:Cx}{e:ag}{te:TE}{lo hi:Option ag}{tl th:TO}{pos p2:Pos}
end
def Jj(n:Nat)(i:Int):Option Nat:=if 0<=i then (if i < n then some i.toNat else none) else if-(n:Int)<=i then some (i + n).toNat else none
def Cm{α:Type}(xs:List α)(i:Int):Option α:=(Jj xs.length i).bind fun j=>xs[j]?
theorem KD{n:Nat}{i:Int}{j:Nat}(h:Jj n i=some j):nh i n=some j/\j < n/\-(n:Int)<=i/\i < n:=by
 unfold Jj at h;by_cases h0:0<=i
 ·rw[if_pos h0]at h;by_cases h1:i < n
  ·rw[if_pos h1]at h;have e:i.toNat=j:=cz h;exact⟨by rw[sj h0 h1,e],by lia,by lia,h1⟩
  ·rw[if_neg h1]at h;cases h
 ·rw[if_neg h0]at h;by_cases h1:-(n:Int)<=i
  ·rw[if_pos h1]at h;have e:(i + n).toNat=j:=cz h;exact⟨by rw[seqIndex_neg (by lia) h1,e],by lia,h1,by lia⟩
  ·rw[if_neg h1]at h;cases h
theorem KH{α:Type}{xs:List α}{i:Int}{v:α}(h:Cm xs i=some v):∃j,nh i xs.length=some j/\xs[j]?=some v/\j < xs.length/\-(xs.length:Int)<=i/\i < xs.length:=by
 unfold Cm at h;cases e:Jj xs.length i with
 |none=>rw[e]at h;cases h
 |some j =>
  rw[e]at h;obtain⟨h1,h2,h3,h4⟩:=KD e;exact⟨j,h1,h,h2,h3,h4⟩
theorem Yx{α:Type}{xs:List α}{j:Nat}{v:α}(h:xs[j]?=some v):Cm xs (j:Int)=some v:=by
 have hj:j < xs.length:=(di.mp h).1;have e:Jj xs.length (j:Int)=some j:=by unfold Jj;rw[if_pos (by lia),if_pos (by lia)];simp
 unfold Cm;rw[e];exact h
def vU(b:ag):Prop:=∀o i,subscripted b false o i=operate [o,i] (getItem o i)
def IxR(X:Cx)(r:R2):Prop :=
 ∀(value slice:ag) (pins:List (ab×Obj)) (s:ae) (σ:St) (H:Hp) (x y:V) (v u:aa) (Q:VK),Inv X pins σ H s->RelV x v->RelV y u->r x y H Q ->
  subscripted slice false v u=operate [v,u] (getItem v u)->ai (ar X.prog X.w) X.A (subscriptTail value slice v u) (EP X pins σ Q) X.xe s
def MtR(X:Cx)(id:String)(r:V->List V->Hp->VK->Prop):Prop :=
 ∀(pins:List (ab×Obj)) (s:ae) (σ:St) (H:Hp) (x:V) (xs:List V) (v:aa) (us:List aa) (Q:VK),Inv X pins σ H s->RelV x v->Vals xs us->r x xs H Q ->
  ai (ar X.prog X.w) X.A (call (.builtin id) (v::us)) (EP X pins σ Q) X.xe s
section
variable{X:Cx}{a b:ag}{ta tb:TE}{pos:Pos}
theorem IxR.or{r r':R2}(h:IxR X r)(h':IxR X r'):IxR X (fun x y H Q=>r x y H Q∨r' x y H Q):=by
 intro value slice pins s σ H x y v u Q I rx ry q hs;rcases q with q|q
 ·exact h value slice pins s σ H x y v u Q I rx ry q hs
 ·exact h' value slice pins s σ H x y v u Q I rx ry q hs
theorem Yy{r:R2}(hr:IxR X r)(ha:PE X a ta)(hb:PE X b tb)(hs:vU b):PE X (.Subscript a b pos) (tOp r ta tb):=by intro pins s σ H Q I h;exact Subscript_ (aix ha hb I h fun v u s2 x y H2 I2 rx ry q=>hr a b pins s2 σ H2 x y v u Q I2 rx ry q (hs _ _))
def als(K:ah):R2:=fun x y H Q=>∃p xs i v,x=.ref p/\y=.int i/\rG K H p xs/\Cm xs i=some v/\Q v H
def alu(K:ah):R2:=fun x y H Q=>∃p xs i v,x=.ref p/\y=.int i/\pB K H p xs/\Cm xs i=some v/\Q v H
def alv:R2:=fun x y H Q=>∃z i c,x=.str z/\y=.int i/\z.length<=sizeLine/\Cm z.cps.toList i=some c/\Q (.str ⟨#[c]⟩) H
theorem afu:IxR X (als X.K):=by
 intro value slice pins s σ H x y v u Q I rx ry h hs;obtain⟨p,xs,i,z,rfl,rfl,hq,he,q⟩:=h;cases rx;obtain⟨t,rfl⟩:=ry;obtain⟨its,r,pl,hz⟩:=I.list hq;obtain⟨j,h1,h2,h3,h4,h5⟩:=KH he;obtain⟨w,ew,rw'⟩:=r.get h2;have hl:=r.length;have hn:=Dd;have gD:EP X pins σ Q w s:=⟨z,H,I,rw',q⟩
 by_cases h0:0<=i
 ·have hj:i.toNat=j:=by rw[sj h0 h5]at h1;exact cz h1
  exact item_listR pl.isList h0 (by lia) (by rw[hj];simpa using ew) gD hs
 ·have hj:(i + (its.toArray.size:Int)).toNat=j:=by rw[seqIndex_neg (by lia) h4]at h1;rw[cw,<- hl];exact cz h1
  exact subscriptTail_builtinR (x:=w) pl.isList.typeIs slot_list_getitem.lookup
   (wpAny_getItem_list_neg (Q:=fun r s'=>r=w/\EP X pins σ Q r s') pl.isList (by lia) (by rw[cw] <;> lia) (by lia) (by rw[hj];simpa using ew) ⟨rfl,gD⟩) hs
theorem abM:IxR X (alu X.K):=by
 intro value slice pins s σ H x y v u Q I rx ry h hs;obtain⟨p,xs,i,z,rfl,rfl,hq,he,q⟩:=h;cases rx;obtain⟨t,rfl⟩:=ry;obtain⟨its,r,pl,hz⟩:=I.tuple hq;obtain⟨j,h1,h2,h3,h4,h5⟩:=KH he;obtain⟨w,ew,rw'⟩:=r.get h2;have hl:=r.length;have hn:=Dd;have gD:EP X pins σ Q w s:=⟨z,H,I,rw',q⟩
 exact subscriptTail_builtinR (x:=w) pl.typeIs slot_tuple_getitem.lookup
  (getItem_tuple (j:=j) (Q:=fun r s'=>r=w/\EP X pins σ Q r s') pl (by lia) (by lia) (by rw[cw,<- hl];exact h1) (by simpa using ew) ⟨rfl,gD⟩) hs
theorem aiF:IxR X alv:=by
 intro value slice pins s σ H x y v u Q I rx ry h hs;obtain⟨z,i,c,rfl,rfl,hz,he,q⟩:=h;obtain⟨t,rfl⟩:=rx;obtain⟨t',rfl⟩:=ry;obtain⟨j,h1,h2,h3,h4,h5⟩:=KH he;have hl:z.cps.toList.length=z.length:=by simp[Str.length]
 rw[hl]at h1 h4 h5;have hn:=Dd;exact tail_any (typeIs_str s z t) slot_str_getitem.lookup (getItem_str (c:=c) (by
  have e1:decide (i < -(2 ^ 63:Int))=false:=decide_eq_false (by lia);have e2:decide (i ≥ 2 ^ 63)=false:=decide_eq_false (by lia);rw[e1,e2,Bool.or_false]) (by rw[h1];simpa using h2) ⟨.str ⟨#[c]⟩,H,I.tok _,⟨_,rfl⟩,q⟩) hs
def rIx(K:ah):R2:=fun x y H Q=>als K x y H Q∨alu K x y H Q∨alv x y H Q
theorem VJ:IxR X (rIx X.K):=afu.or (abM.or aiF)
theorem VL(its:List aa)(n j:Nat)(u:aa):cE (·.setIfInBounds j u) { cls:=.type "list",data:=.seq its.toArray n }={ cls:=.type "list",data:=.seq (its.set j u).toArray n }:=by simp[cE]
theorem Inv.lst{pins:List (ab×Obj)}{σ:St}{H:Hp}{s:ae}{p:ab}{xs:List V}(I:Inv X pins σ H s)(h:H p=some (.lst xs)) :
  ∃(its:List aa) (n:Nat),Vals xs its/\s.heap.get? p=some { cls:=.type "list",data:=.seq its.toArray n }/\xs.length<=sizeLine:=by
 obtain⟨z,its,n,r,e⟩:=I.hok p _ h;exact⟨its,n,r,e,z⟩
theorem Inv.aiG{pins:List (ab×Obj)}{σ:St}{H:Hp}{s:ae}{p:ab}{xs ys:List V}{its its':List aa}{n n':Nat}{f:Obj->Obj}(I:Inv X pins σ H s)(h:H p=some (.lst xs))
  (ho:s.heap.get? p=some { cls:=.type "list",data:=.seq its.toArray n }) (hf:f { cls:=.type "list",data:=.seq its.toArray n }={ cls:=.type "list",data:=.seq its'.toArray n' }) (r:Vals ys its') (hz:ys.length<=sizeLine) (t:Nat) :
  Inv X pins σ (upd H p (.lst ys)) { s with heap:=s.heap.update p f,toks:=t }:=by
 have e:(s.heap.update p f).get? p=some { cls:=.type "list",data:=.seq its'.toArray n' }:=by rw[fg f ho (by rw[hf] <;> rfl),hf]
 refine I.write (x:=p) (e:=p) (by rw[h];trivial) (.inl rfl) (fun b u hb q=>(fm _ _ (dm hb)).trans q) ⟨_,e⟩ ?_;exact⟨hz,its',n',r,e⟩
def alw:V->V->V->Hp->(Hp->Prop)->Prop:=fun o i v H Q=>∃p xs k j,o=.ref p/\i=.int k/\H p=some (.lst xs)/\Jj xs.length k=some j/\Q (upd H p (.lst (xs.set j v)))
theorem abN:aiu X alw:=by
 intro pins s σ H o i v ov iv u Q I ro ri rv h;obtain⟨p,xs,k,j,rfl,rfl,hp,hj,q⟩:=h;cases ro;obtain⟨t,rfl⟩:=ri;obtain⟨its,n,r,ho,hz⟩:=I.lst hp;obtain⟨h1,h2,h3,h4⟩:=KD hj;have hl:=r.length;have hn:=Dd;have I':Inv X pins σ (upd H p (.lst (xs.set j v))) { s with heap:=s.heap.update p (cE (·.setIfInBounds j u)) } :=
  I.aiG hp ho (VL its n j u) (r.set rv j) (by rw[List.length_set];exact hz) s.toks
 by_cases h0:0<=k
 ·have hk:k.toNat=j:=by rw[sj h0 h4]at h1;exact cz h1
  exact PySem.W.ki_setAt ho h0 (by lia) (by rw[cw,<- hl];exact h4) (by rw[hk];exact⟨_,I',q⟩)
 ·have hk:(k + (its.toArray.size:Int)).toNat=j:=by rw[seqIndex_neg (by lia) h3]at h1;rw[cw,<- hl];exact cz h1
  exact PySem.W.ki_setBack ho (by lia) (by rw[cw,<- hl];exact h3) (by lia) (by rw[hk];exact⟨_,I',q⟩)
theorem vV:iQ X (.builtin "len") (fun xs H Q=>∃p ys,xs=[.ref p]/\(rG X.K H p ys∨pB X.K H p ys)/\Q (.int ys.length) H):=by
 intro pins s σ H xs us Q I r h;obtain⟨p,ys,rfl,hq,q⟩:=h;obtain⟨u,rfl,rx⟩:=Yv r;cases rx;have hn:=Dd;rcases hq with hq|hq
 ·obtain⟨its,r',pl,hz⟩:=I.list hq;have hlen:=r'.length;exact Calls.call_len_list pl.isList (by simp only[cw] <;> lia) ⟨.int ys.length,H,I.tok _,⟨s.toks + 1,by rw[cw,hlen]⟩,q⟩
 ·obtain⟨its,r',pl,hz⟩:=I.tuple hq;have hlen:=r'.length;exact len_tuple pl (by simp only[cw] <;> lia) ⟨.int ys.length,H,I.tok _,⟨s.toks + 1,by rw[cw,hlen]⟩,q⟩
theorem GJ:iQ X (.type "tuple") (fun xs H Q=>∃p ys,xs=[.ref p]/\((rG X.K H p ys/\∀l,H l=none->Q (.ref l) (upd H l (.tup ys)))∨(pB X.K H p ys/\Q (.ref p) H))):=by
 intro pins s σ H xs us Q I r h;obtain⟨p,ys,rfl,h⟩:=h;obtain⟨u,rfl,rx⟩:=Yv r;cases rx;rcases h with ⟨hq,q⟩|⟨hq,q⟩
 ·obtain⟨its,r',pl,hz⟩:=I.list hq;have hlen:=r'.length;refine call_tuple_list pl.isList (fun h' kp=>?_) (by simp only[cw] <;> lia);have I1:Inv X pins σ H { s with heap:=h' }:=I.kept (t':=s.toks) kp;have I2:Inv X pins σ (upd H h'.objs.size (.tup ys)) { s with heap:=h'.push { cls:=.type "tuple",data:=.seq its.toArray } } :=
   I1.laid (t':=s.toks) (fun b o e=>b0 _ e) (bj _) (show fD X.prog X.w _ _ _ (.tup ys) from⟨hz,its,r',IsTup.new _ _⟩)
  exact⟨.ref h'.objs.size,_,I2,rfl,q _ (I1.hok.fresh (bj _))⟩
 ·obtain⟨its,r',pl,hz⟩:=I.tuple hq;exact call_tuple_same pl ⟨.ref p,H,I,rfl,q⟩
def tyV(K:ah)(T:String)(x:V)(H:Hp):Prop:=match x with
 | .str _=>T="str"
 | .int _=>T="int"
 | .ref p=>(T="list"/\∃xs,rG K H p xs)∨(T="tuple"/\∃o,K.lookup p=some o/\o.cls=.type "tuple"/\o.dict=none) ∨
   (T="dict"/\((∃kvs,H p=some (.dK kvs))∨∃kvs,H p=some (.dT kvs)))∨(T="set"/\∃S n,H p=some (.set S n))
 |_=>False
theorem aiH{pins:List (ab×Obj)}{σ:St}{H:Hp}{s:ae}{T:String}{x:V}{v:aa}(I:Inv X pins σ H s)(r:RelV x v)(ty:tyV X.K T x H) :
  s.TypeIs v T/\∀a,v=.ref a->∃ob,s.heap.get? a=some ob/\ob.dict=none:=by
 cases x with
 |str z =>
  obtain⟨t,rfl⟩:=r;cases (show T="str" from ty);exact⟨typeIs_str s z t,fun _ e=>nomatch e⟩
 |int i =>
  obtain⟨t,rfl⟩:=r;cases (show T="int" from ty);exact⟨typeIs_int s i t,fun _ e=>nomatch e⟩
 |ref p =>
  cases r;rcases ty with ⟨rfl,xs,hq⟩|⟨rfl,o,hk,hc,hd⟩|⟨rfl,hk⟩|⟨rfl,S,n,hk⟩
  ·obtain⟨its,_,pl,_⟩:=I.list hq;refine⟨pl.isList.typeIs,fun a e=>?_⟩;cases e;obtain⟨o,n,e,c,hd,_⟩:=pl;exact⟨o,e,hd⟩
  ·refine⟨⟨o,I.Vu p o hk,hc⟩,fun a e=>?_⟩;cases e;exact⟨o,I.Vu _ o hk,hd⟩
  ·have z:∃o,s.heap.get? p=some o/\o.ExactDict:=by
    rcases hk with ⟨kvs,hk⟩|⟨kvs,hk⟩
    ·obtain⟨_,_,_,_,o,_,_,e,ex,_⟩:=I.hok p _ hk;exact⟨o,e,ex⟩
    ·obtain⟨_,_,_,_,o,_,_,e,ex,_⟩:=I.hok p _ hk;exact⟨o,e,ex⟩
   obtain⟨o,e,ex⟩:=z;refine⟨⟨o,e,ex.1⟩,fun a e2=>?_⟩;cases e2;exact⟨o,e,ex.2.1⟩
  ·obtain⟨o,_,_,_,e,ex,_⟩:=I.hok p _ hk;refine⟨⟨o,e,ex.1⟩,fun a e2=>?_⟩;cases e2;exact⟨o,e,ex.2.1⟩
 |_=>exact fE ty
def tBM(K:ah)(T:String)(r:V->List V->Hp->VK->Prop)(to:TE)(t:TA):TE:=fun σ H Q=>to σ H fun x H1=>tyV K T x H1/\t σ H1 fun xs H2=>r x xs H2 Q
variable{o e:ag}{es:List ag}{to:TE}{t:TA}{name:Str}{apos cpos:Pos}{T id:String}{r:V->List V->Hp->VK->Prop}
theorem abO(pa:PlainAttrs T) (slot:Slot T name id) (hty:typeOf (.builtin id)=pure (.type "method_descriptor")) (hm:MtR X id r) (ho:PE X o to) (ha:PA X (e::es) t)
  (hbase:ku o name X.env (aS o X.env)=aS o X.env:=by rfl)
  (hfew:((c6 cpos (a9 (e::es) X.env)).all (fun x=>!x.1) && (ik cpos (il [] X.env)).all (fun x=>x.1.isSome)
   && decide ((e::es).length + ([]:List i4).length + (if ([]:List i4).isEmpty then 0 else 1) < 30))=true:=by rfl)
  (hline:(apos.endLine == cpos.line)=true:=by rfl) (hs:a9 (e::es) X.env=(false,aS e X.env)::a9 es X.env:=by rfl) (hplain:(c6 cpos (a9 es X.env)).any (·.1)=false:=by rfl) :
  PE X (.Call (.Attribute o name apos) (e::es) [] cpos) (tBM X.K T r to t):=by
 intro pins s σ H Q I h;refine sk hbase hfew hline rfl (jD (ho pins s σ H _ I h) fun v s1 fV=>?_);obtain⟨x,H1,I1,r1,ty,q1⟩:=fV;obtain⟨h1,h2⟩:=aiH I1 r1 ty;refine⟨T,id,pa,slot,hty,h1,h2,?_⟩;have hA:=ha cpos pins s1 σ H1 _ I1 q1;rw[hs]at hA ⊢;refine sm (by show(false || (c6 cpos (a9 es X.env)).any (·.1))=false;rw[hplain] <;> rfl) (sq ?_);exact jD hA fun us s2 ⟨vs,H2,I2,r2,q2⟩=>hm pins s2 σ H2 x vs v us Q I2 r1 r2 q2
end
def MtM(X:Cx)(id:String)(r:V->List V->Hp->VK->Prop):Prop :=
 ∀(pins:List (ab×Obj)) (s:ae) (σ:St) (H:Hp) (x:V) (xs:List V) (v:aa) (us:List aa) (Q:VK),Inv X pins σ H s->RelV x v->Vals xs us->r x xs H Q ->
  ai (ar X.prog X.w) X.A (call (.builtin id) (v::us)) (EP X pins σ Q) X.xe s
theorem Vals.one:∀{x:V}{us:List aa},Vals [x] us->∃u,us=[u]/\RelV x u
 |_,_,.cons r .nil=>⟨_,rfl,r⟩
theorem Vals.eraseIdx:∀{xs:List V}{us:List aa}(i:Nat),Vals xs us->Vals (xs.eraseIdx i) (us.eraseIdx i)
 |_,_,_,.nil=>.nil
 |_,_,0,.cons _ t=>t
 |_,_,i + 1,.cons r t=>.cons r (Vals.eraseIdx i t)
theorem Jk{α:Type}:∀(l:List α) (i:Nat),(l.eraseIdx i).length<=l.length
 | [],_=>bj _
 |_::_,0=>nv _
 |_::r,i + 1=>Nat.succ_le_succ (Jk r i)
section
variable{X:Cx}{pins:List (ab×Obj)}{σ:St}{H:Hp}{s:ae}{l b:ab}{xs ys zs:List V}
theorem Inv.aiI{its its':List aa}{n:Nat}{f:Array aa->Array aa}{t':Nat}(I:Inv X pins σ H s)(hH:H l=some (.lst xs))
  (e:s.heap.get? l=some { cls:=.type "list",data:=.seq its.toArray n }) (hf:f its.toArray=its'.toArray) (hv:Vals ys its') (hz:ys.length<=sizeLine) :
  Inv X pins σ (upd H l (.lst ys)) { s with heap:=s.heap.update l (cE f),toks:=t' }:=by
 have q:=PySem.IsL.update e f;rw[hf]at q;refine I.write (x:=l) (e:=l) (by rw[hH];exact trivial) (.inl rfl) (fun b' u hb hu=>(fm s.heap (cE f) (dm hb)).trans hu) ⟨_,q⟩ ?_;exact⟨hz,its',_,hv,q⟩
theorem Inv.alx{its:List aa}{t':Nat}(I:Inv X pins σ H s)(hv:Vals ys its)(hz:ys.length<=sizeLine) :
  Inv X pins σ (upd H s.heap.objs.size (.lst ys)) { s with heap:=s.heap.push { cls:=.type "list",data:=.seq its.toArray },toks:=t' } :=
 I.laid (fun _ _ q=>b0 _ q) (bj _) ⟨hz,its,0,hv,cy _ rfl⟩
theorem Inv.fresh(I:Inv X pins σ H s):H s.heap.objs.size=none:=I.hok.fresh (bj _)
theorem Inv.aiJ(I:Inv X pins σ H s)(hH:H l=some (.lst xs)):xs.length<=sizeLine/\∃(its:List aa) (n:Nat),Vals xs its/\xs.length=its.length/\s.heap.get? l=some { cls:=.type "list",data:=.seq its.toArray n }:=by obtain⟨z,its,n,r,e⟩:=I.hok l _ hH;exact⟨z,its,n,r,r.length,e⟩
theorem abP{n:Nat}(h:n<=sizeLine):oS n=false:=by unfold oS;exact decide_eq_false (by lia)
end
section
variable{X:Cx}
def Yz:V->List V->Hp->VK->Prop:=fun x vs H Q=>∃l xs y,x=.ref l/\vs=[y]/\H l=some (.lst xs)/\xs.length < sizeLine/\Q .non (upd H l (.lst (xs++[y])))
theorem Jl:MtM X "list.append" Yz:=by intro pins s σ H x vs v us Q I rx rv h;obtain⟨l,xs,y,rfl,rfl,hH,hz,q⟩:=h;cases rx;obtain⟨u,rfl,ru⟩:=rv.one;obtain⟨z,its,n,r,hl,e⟩:=I.aiJ hH;refine call_meets F.slot_list_append ⟨_,e,rfl⟩ F.entry_list_append (F.args_list_append_2 _ _) (PySem.list_append l its.toArray n u (by rw[cw];lia)) ⟨e,?_⟩;refine⟨.non,_,I.aiI (its':=its++[u]) hH e (by simp) (r.append (.cons ru .nil)) ?_,rfl,q⟩;rw[dC,o3];lia
def aiK:V->List V->Hp->VK->Prop:=fun x vs H Q=>∃l xs i k y,x=.ref l/\vs=[.int i]/\H l=some (.lst xs)/\-(2 ^ 63)<=i/\i < 2 ^ 63/\nh i xs.length=some k/\xs[k]?=some y/\Q y (upd H l (.lst (xs.eraseIdx k)))
theorem abQ:MtM X "list.pop" aiK:=by
 intro pins s σ H x vs v us Q I rx rv h;obtain⟨l,xs,i,k,y,rfl,rfl,hH,h1,h2,hk,hy,q⟩:=h;cases rx;obtain⟨u,rfl,ru⟩:=rv.one;obtain⟨t,rfl⟩:=ru;obtain⟨z,its,n,r,hl,e⟩:=I.aiJ hH;obtain⟨w,hw,rw'⟩:=r.get hy;refine call_meets F.slot_list_pop ⟨_,e,rfl⟩ F.entry_list_pop (F.args_list_pop_2 _ _)
  (MeetsSeq.list_pop_at l its.toArray n i t k w (fitsIndex_both h1 h2) (by rw[cw,<- hl];exact hk) (by rw[<- fF];exact hw) (by rw[cw];lia)) ⟨e,?_⟩
 refine⟨y,_,I.aiI (its':=its.eraseIdx k) hH e ?_ (r.eraseIdx k) ?_,rw',q⟩
 ·show its.toArray.eraseIdxIfInBounds k=(its.eraseIdx k).toArray;rw[List.eraseIdxIfInBounds_toArray]
 ·have:=Jk xs k;lia
end
section
variable{prog:aE}{w:ay}{A:a8}{E:aa->ae->Prop}{s:ae}
end
section
variable{X:Cx}
end
end L2
namespace Att
open PySem PySem.W PySem.Calls PyProof.Rows
theorem Ay{P:Params}{h:Heap}:∀(ns:List Int) (vs:List aa),WellAll P h vs (ns.map WData.int)->nc vs ns:=by
 intro ns
 induction ns with
 |nil =>
  intro vs w;rw[kq]at w;cases w;exact .nil
 |cons n ns ih =>
  intro vs w;rw[b_]at w;cases w with
  |cons a b =>
   cases a;exact .cons _ _ (ih _ b)
theorem aao{l:k9}{n:Nat}(hn:l.most=some n){P:Params}{h:Heap}{args:List WData}{vals:List aa}
  (hpre:l.row.toRowW.claim.pre args=true) (hwl:WellAll P h vals args) :
  ∃a vs ns,vals=[aa.ref a]/\args=[WData.list (ns.map WData.int)]/\h.get? a=some { cls:=.type "list",data:=.seq vs.toArray }/\nc vs ns/\ns.length<=n:=by
 have hsh:WShape.hasAll [] args [.list .int]=true:=(pre_splitW hpre).1;have hc:l.pre.holds [] { args:=args }=true:=(pre_splitW hpre).2;obtain⟨d,r,rfl,h1,h2⟩:=hasAllW_cons hsh;obtain rfl:=hasAllW_nil h2;obtain⟨xs,rfl,h3⟩:=hasW_list h1;obtain⟨ns,rfl⟩:=items_int h3;have hlen:ns.length<=n:=by
  unfold k9.pre at hc;have h4:(WTm.not (.lt (.lit (.int (n:Int))) (.len (.arg 0)))).holds [] { args:=[.list (ns.map .int)] }=true:=by have h4:=(holds_andW hc).1;rw[hn]at h4;exact h4
  have h5:=condW_of h4 (w_not (w_lt w_lit (w_len_list (w_arg rfl))));rw[b8]at h5;refine Nat.le_of_not_lt fun q=>?_;have q':(n:Int) < ((ns.length:Nat):Int):=by lia
  first
   | (rw[decide_eq_true q']at h5;exact absurd h5 (by decide))
   | (simp at h5;lia)
 cases hwl with
 |cons w1 w2 =>
  cases w2;cases w1 with
  |list ho hall=>exact⟨_,_,ns,rfl,rfl,ho,Ay ns _ hall,hlen⟩
theorem aap(l:k9)(args:List WData):l.row.toRowW.claim.post args (.bool true) args=true :=
 postW_of (r:=l.row.toRowW) (X:=(true == true))
  (show WShape.has [] (.bool true) .bool=true by first|rfl|decide|simp[WShape.has,WShape.arms,WShape.armsAll])
  (show(WTm.eq .res (.lit (.bool true))).value [] { args:=args,res:=some (.bool true),after:=args }=some (.bool (true == true)) from w_eq_bool (w_res rfl) w_lit) rfl
theorem Qy{l:k9}{n:Nat}{q:aE}{loose:List Str}{XP:(Str->Option aa)->Heap->Prop}{YP:ay->Heap->Prop}{d:DefRec}
  (hn:l.most=some n) (hdf:d.params.defaults=[])
  (call:∀(w:ay) (s₀ s₁:ae) (mg mb:Str->Option aa) (fa:ab) (o:Obj) (pm cd doc:aa) (a:ab) (vs:List aa) (ns:List Int),
   Ground q loose [] XP w s₀ mg mb s₁.heap->YP w s₁.heap ->
   s₁.heap.get? fa=some o->o.data=.func (docDef d.name d.params d.body d.scope pm cd doc)->s₁.heap.CodeRec cd d.name->mg d.name=some (.ref fa) ->
   s₁.heap.get? a=some { cls:=.type "list",data:=.seq vs.toArray }->nc vs ns->ns.length<=n->s₁.gens=#[] ->
   fx (ar l.prog w) k_ (.call (.ref fa) ⟨[.ref a],[]⟩) (fun r s'=>r=.ok (.ret (.bool true))/\OldK s₁.heap s'.heap/\s'.os=s₁.os/\kc s'.gens) s₁) :
  WalkO q loose XP YP l.row.toRowW d [] (fun f vs=>PySem.call f vs):=by
 intro w s₀ s₁ mg mb G Y fa o pm cd doc dV kV ho hd hcd hD hmg hg args vals as hpre hlay hrd hwl hlo;obtain rfl:dV=.none:=Dflts.none hD hdf;obtain rfl:kV=.none:=Dflts.noKw hD;obtain⟨a,vs,ns,rfl,rfl,hobj,hints,hlen⟩:=aao hn hpre hwl;refine enter_call (lh (call w s₀ s₁ mg mb fa o pm cd doc a vs ns G Y ho (fd_plain hd) hcd hmg hobj hints hlen hg) fun r s' hq=>?_);obtain⟨rfl,h2,h3,h4⟩:=hq;exact⟨.inl ⟨.bool true,.bool true,[],rfl,fun _=>rfl,.bool true,aap l _,fun _=>⟨ny.nil,fun _ hm=>(nomatch hm)⟩⟩,h2,h3,h4⟩
section
variable{prog:aE}{w:ay}{A:a8}{E:aa->ae->Prop}{s:ae}{K:Frag}
def aog(h:Heap)(L d:ab):List (ab×Obj):=(bu h.objs.size).filterMap fun a=>if a=L∨a=d then none else (h.get? a).map fun o=>(a,o)
end
end Att
namespace L2
open PySem PySem.Spec PyProof.Rows
theorem uc:∀{vs:List aa}{ns:List Int},nc vs ns->Vals (ns.map V.int) vs
 |_,_,.nil=>.nil
 |_,_,.cons n t h=>.cons ⟨t,rfl⟩ (uc h)
abbrev KOf{K:ah}{h:Heap}(_:K.In h):ah:=K
def bJ(s:be):k7:=match s with
 | .FunctionDef _ a _ _ _ _ _ _ _ _=>a
 |_=>{ posonlyargs:=[],args:=[],vararg:=none,kwonlyargs:=[],kw_defaults:=[],kwarg:=none,defaults:=[] }
def bC(s:be):List be:=match s with
 | .FunctionDef _ _ b _ _ _ _ _ _ _=>b
 |_=>[]
def aD(s:be):Scope:=match s with
 | .FunctionDef _ _ _ _ _ _ sc _ _ _=>sc
 |_=>{ kind:=.function,names:=[],isGenerator:=false,isCoroutine:=false }
structure vP (K:ah)(x qual:Str)(st:be)(f:ab)(fd:b9):Prop where
 ex:∃(oc:aa) (od:Option ab) (kV doc pm:aa) (an:Option ab) (cdv ct:aa) (osl:Array (Option aa)),
  fd=eJ x qual (bJ st) (bC st) (aD st) .none kV doc pm an cdv ct/\K.lookup f=some ⟨oc,od,.func fd,osl⟩/\k8 K cdv qual=true
 kp:f_ K (.ref f)=true
section
variable{P:aE}{w:ay}{K:ah}{mg:Str->Option aa}{base:Heap}
theorem vP.binds{x qual:Str}{st:be}{f:ab}{fd:b9}{ps:List Str}(F:vP K x qual st f fd)
  (h:∀(kV doc pm:aa) (an:Option ab) (cdv ct:aa) (us:List aa),us.length=ps.length->bindArgs (eJ x qual (bJ st) (bC st) (aD st) .none kV doc pm an cdv ct) ⟨us,[]⟩=pure (ps.zip us)):Binds K fd ps []:=by
 obtain⟨oc,od,kV,doc,pm,an,cdv,ct,osl,rfl,lk,hcd⟩:=F.ex;exact .all (h kV doc pm an cdv ct)
theorem dh{x qual:Str}{st:be}{f:ab}{oc:aa}{od an:Option ab}{osl:Array (Option aa)}{kV doc pm cdv ct:aa}(l:K.lookup f=some ⟨oc,od,.func (eJ x qual (bJ st) (bC st) (aD st) .none kV doc pm an cdv ct),osl⟩)
  (c:k8 K cdv qual=true) (k:f_ K (.ref f)=true):vP K x qual st f (eJ x qual (bJ st) (bC st) (aD st) .none kV doc pm an cdv ct):=⟨⟨oc,od,kV,doc,pm,an,cdv,ct,osl,rfl,l,c⟩,k⟩
end
theorem aaq{n:Nat}(h:n<=1000):n < sizeLine:=i5 h (by decide)
section
variable{X:Cx}
theorem pv(i:Nat) {x:Str}{pos:Pos}(hN:X.N[i]?=some x:=by rfl) (hv:Kv X.env.scope x:=by first|exact Or.inl rfl|exact Or.inr (Or.inl rfl)|exact Or.inr (Or.inr rfl)) (hd:(x == ("__debug__":Str))=false:=by decide)
  (hcd:(x == ("__classdict__":Str))=false:=by decide):PE X (.Name x pos) (GD i):=gO hN hv hd hcd
end
def Same(H H':Hp):Prop:=∀b o,H b=some o->H' b=some o
theorem Same.refl(H:Hp):Same H H:=fun _ _ h=>h
theorem Same.trans{H H1 H2:Hp}(a:Same H H1)(b:Same H1 H2):Same H H2:=fun c o h=>b c o (a c o h)
theorem Same.free{H H':Hp}(e:Same H H'){l:ab}(h:H' l=Option.none):H l=Option.none:=by
 cases q:H l with
 |none=>rfl
 |some o =>
  rw[e l o q]at h;cases h
theorem Same.seq{K:ah}{H H':Hp}{a:ab}{xs:List V}(e:Same H H')(h:rG K H a xs):rG K H' a xs:=by
 rcases h with (h|⟨o,h⟩)|h
 ·exact .inl (.inl (e _ _ h))
 ·exact .inl (.inr ⟨o,e _ _ h⟩)
 ·exact .inr h
end L2
namespace Vl
open PySem PySem.Spec L2
inductive D where
 |non|bl (b:Bool)|int (i:Int)|str (x:Str)|tup (xs:List D)|lst (xs:List D)|mZ (c:Str) (n:Int)|je (ks:List (List Int)) (ds:List D)
def ahB(a C:ab)(n:Int):Heap->Prop:=fun h=>∃o vs,h.get? a=some o/\o.cls=.ref C/\o.data=.fields vs/\n=0
def UG(K:ah)(G:Hp):ab->List Int->Prop:=fun b ks=>pB K G b (ks.map V.int)
def KJ(ks:List Int):Int:=reduceHash (cq.Tuple.tupleHashOf (ks.map hashInt))
def oG(U:ab->List Int->Prop)(a:ab)(kvs:List (List Int×V)):Heap->Prop:=fun h=>∃(o:Obj) (es:Array kv) (ep:Nat) (xs:List (List Int×ab×aa)),h.get? a=some o/\o.ExactDict/\o.data=.dict es ep/\(a == f7)=false /\
 es.toList=xs.map (fun x=>⟨KJ x.1,.ref x.2.1,x.2.2⟩)/\(xs.map (·.1)).Nodup/\Paired (fun(p:List Int×V) (q:List Int×ab×aa)=>p.1=q.1/\U q.2.1 q.1/\RelV p.2 q.2.2) kvs xs
def Ac(H:Hp)(d:ab)(U:ab->List Int->Prop)(bI:List (List Int×V)):Prop:=∃φ:Heap->Prop,H d=some (.ext φ)/\∀h,φ h->oG U d bI h
theorem YB{H:Hp}{d:ab}{U:ab->List Int->Prop}{bI:List (List Int×V)}(h:H d=some (.ext (oG U d bI))):Ac H d U bI:=⟨_,h,fun _ z=>z⟩
def Ad(G:Hp)(a:ab)(U:ab->List Int->Prop)(bI:List (List Int×V)):Prop:=∃o,G a=some (.ext fun h=>h.get? a=some o/\oG U a bI h)
theorem Ad.mono{G G':Hp}{a:ab}{U:ab->List Int->Prop}{bI:List (List Int×V)}(e:Same G G')(h:Ad G a U bI):Ad G' a U bI:=let ⟨o,q⟩:=h;⟨o,e _ _ q⟩
theorem Ad.at{G:Hp}{a:ab}{U:ab->List Int->Prop}{bI:List (List Int×V)}(h:Ad G a U bI):Ac G a U bI:=let ⟨_,q⟩:=h;⟨_,q,fun _ z=>z.2⟩
mutual
def Rep(K:ah)(G:Hp):D->V->Prop
 | .non,v=>v=.non
 | .bl b,v=>v=.bl b
 | .int i,v=>v=.int i
 | .str x,v=>v=.str x
 | .tup ds,v=>∃a vs,v=.ref a/\pB K G a vs/\bL K G ds vs
 | .lst ds,v=>∃a vs,v=.ref a/\rG K G a vs/\bL K G ds vs
 | .mZ c n,v=>∃a C,v=.ref a/\o4 K bX c=some (some (.ref C))/\G a=some (.ext (ahB a C n))
 | .je ks ds,v=>∃a U bI,v=.ref a/\Ad G a U bI/\(∀b js,U b js->UG K G b js)/\bI.map (·.1)=ks/\bL K G ds (bI.map (·.2))
def bL(K:ah)(G:Hp):List D->List V->Prop
 | [],vs=>vs=[]
 |d::ds,vs=>∃v vs',vs=v::vs'/\Rep K G d v/\bL K G ds vs'
end
theorem Same.gK{K:ah}{H H':Hp}{a:ab}{xs:List V}(e:Same H H')(h:pB K H a xs):pB K H' a xs:=by
 rcases h with (h|⟨o,h⟩)|h
 ·exact .inl (.inl (e _ _ h))
 ·exact .inl (.inr ⟨o,e _ _ h⟩)
 ·exact .inr h
mutual
theorem Rep.mono{K:ah}{G G':Hp}(e:Same G G'):∀{d:D}{v:V},Rep K G d v->Rep K G' d v
 | .non,_,h=>by simp only[Rep]at h ⊢;exact h
 | .bl _,_,h=>by simp only[Rep]at h ⊢;exact h
 | .int _,_,h=>by simp only[Rep]at h ⊢;exact h
 | .str _,_,h=>by simp only[Rep]at h ⊢;exact h
 | .tup ds,_,h=>by simp only[Rep]at h ⊢;obtain⟨a,vs,e1,h1,h2⟩:=h;exact⟨a,vs,e1,Same.gK e h1,bL.mono e h2⟩
 | .lst ds,_,h=>by simp only[Rep]at h ⊢;obtain⟨a,vs,e1,h1,h2⟩:=h;exact⟨a,vs,e1,e.seq h1,bL.mono e h2⟩
 | .mZ c n,_,h=>by simp only[Rep]at h ⊢;obtain⟨a,C,e1,h1,h2⟩:=h;exact⟨a,C,e1,h1,e _ _ h2⟩
 | .je ks ds,_,h=>by simp only[Rep]at h ⊢;obtain⟨a,U,bI,e1,h1,h2,h3,h4⟩:=h;exact⟨a,U,bI,e1,h1.mono e,fun b js q=>Same.gK e (h2 b js q),h3,bL.mono e h4⟩
theorem bL.mono{K:ah}{G G':Hp}(e:Same G G'):∀{ds:List D}{vs:List V},bL K G ds vs->bL K G' ds vs
 | [],_,h=>by simp only[bL]at h ⊢;exact h
 |d::ds,_,h=>by simp only[bL]at h ⊢;obtain⟨v,vs',e1,h1,h2⟩:=h;exact⟨v,vs',e1,Rep.mono e h1,bL.mono e h2⟩
end
section
variable{K:ah}{G:Hp}
theorem aM{i:Int}{v:V}:Rep K G (.int i) v↔v=.int i:=by simp only[Rep]
theorem bK{i:Bool}{v:V}:Rep K G (.bl i) v↔v=.bl i:=by simp only[Rep]
theorem bR{v:V}:Rep K G .non v↔v=.non:=by simp only[Rep]
theorem bU{x:Str}{v:V}:Rep K G (.str x) v↔v=.str x:=by simp only[Rep]
theorem bw{ds:List D}{v:V}:Rep K G (.tup ds) v↔∃a vs,v=.ref a/\pB K G a vs/\bL K G ds vs:=by simp only[Rep]
theorem aW{ds:List D}{v:V}:Rep K G (.lst ds) v↔∃a vs,v=.ref a/\rG K G a vs/\bL K G ds vs:=by simp only[Rep]
theorem YC{c:Str}{n:Int}{v:V}:Rep K G (.mZ c n) v↔∃a C,v=.ref a/\o4 K bX c=some (some (.ref C))/\G a=some (.ext (ahB a C n)):=by simp only[Rep]
theorem qe{ks:List (List Int)}{ds:List D}{v:V}:Rep K G (.je ks ds) v↔∃a U bI,v=.ref a/\Ad G a U bI/\(∀b js,U b js->UG K G b js)/\bI.map (·.1)=ks/\bL K G ds (bI.map (·.2)):=by simp only[Rep]
theorem bG{vs:List V}:bL K G [] vs↔vs=[]:=by simp only[bL]
theorem aQ{d:D}{ds:List D}{vs:List V}:bL K G (d::ds) vs↔∃v vs',vs=v::vs'/\Rep K G d v/\bL K G ds vs':=by simp only[bL]
theorem bL.length:∀{ds:List D}{vs:List V},bL K G ds vs->ds.length=vs.length
 | [],_,h=>by rw[bG.mp h];rfl
 |d::ds,_,h=>by obtain⟨v,vs',rfl,_,h2⟩:=aQ.mp h;simp[bL.length h2]
theorem bL.get:∀{ds:List D}{vs:List V}{i:Nat}{d:D},bL K G ds vs->ds[i]?=some d->∃v,vs[i]?=some v/\Rep K G d v
 | [],_,_,_,h,e=>by simp at e
 |d::ds,_,i,x,h,e=>by
  obtain⟨v,vs',rfl,h1,h2⟩:=aQ.mp h;cases i with
  |zero=>simp at e;subst e;exact⟨v,by simp,h1⟩
  |succ i=>obtain⟨u,q1,q2⟩:=bL.get (i:=i) h2 (by simpa using e);exact⟨u,by simpa using q1,q2⟩
theorem bL.get':∀{ds:List D}{vs:List V}{i:Nat}{v:V},bL K G ds vs->vs[i]?=some v->∃d,ds[i]?=some d/\Rep K G d v
 | [],_,_,_,h,e=>by rw[bG.mp h]at e;simp at e
 |d::ds,_,i,x,h,e=>by
  obtain⟨v,vs',rfl,h1,h2⟩:=aQ.mp h;cases i with
  |zero=>simp at e;subst e;exact⟨d,by simp,h1⟩
  |succ i=>obtain⟨u,q1,q2⟩:=bL.get' (i:=i) h2 (by simpa using e);exact⟨u,by simpa using q1,q2⟩
theorem bL.append:∀{ds es:List D}{vs us:List V},bL K G ds vs->bL K G es us->bL K G (ds++es) (vs++us)
 | [],_,_,_,h,h'=>by rw[bG.mp h];exact h'
 |d::ds,_,_,_,h,h'=>by obtain⟨v,vs',rfl,h1,h2⟩:=aQ.mp h;exact aQ.mpr ⟨v,_,rfl,h1,bL.append h2 h'⟩
theorem bL.one{d:D}{v:V}(h:Rep K G d v):bL K G [d] [v]:=aQ.mpr ⟨v,[],rfl,h,bG.mpr rfl⟩
theorem ud(ns:List Int):bL K G (ns.map D.int) (ns.map V.int):=by
 induction ns with
 |nil=>exact bG.mpr rfl
 |cons n ns ih=>exact aQ.mpr ⟨_,_,rfl,aM.mpr rfl,ih⟩
end
inductive Rs (α:Type) where
 |ok (a:α)|ex (c:Str) (n:Int)|no
def Rs.bind{α β:Type}:Rs α->(α->Rs β)->Rs β
 | .ok a,k=>k a
 | .ex c n,_=>.ex c n
 | .no,_=>.no
inductive Sl where
 |no|fz (d:D)|ow (ds:List D)|od (kvs:List (List Int×D))|op (ds:List D)
def Sl.own:Sl->Bool
 | .ow _=>true
 | .od _=>true
 | .op _=>true
 |_=>false
inductive eG (K:ah) (G:Hp):List (List Int×D)->List (List Int×V)->Prop
 |nil:eG K G [] []
 |cons {k:List Int}{d:D}{v:V}{kvs:List (List Int×D)}{bI:List (List Int×V)}:Rep K G d v->eG K G kvs bI->eG K G ((k,d)::kvs) ((k,v)::bI)
theorem eG.mono{K:ah}{G G':Hp}(e:Same G G'){kvs:List (List Int×D)}{bI:List (List Int×V)}(h:eG K G kvs bI):eG K G' kvs bI:=by
 induction h with
 |nil=>exact .nil
 |cons r _ ih=>exact .cons (r.mono e) ih
def rN(K:ah)(G:Hp)(a:ab):Sl->HO->Prop
 | .ow ds,o=>∃vs,o=.lst vs/\bL K G ds vs
 | .op ds,o=>∃vs,o=.lst vs/\bL K G ds vs
 | .od kvs,o=>∃U bI,o=.ext (oG U a bI)/\(∀b ks,U b ks->UG K G b ks)/\eG K G kvs bI
 |_,_=>False
theorem rN.mono{K:ah}{G G':Hp}(e:Same G G'){a:ab}{z:Sl}{o:HO}(h:rN K G a z o):rN K G' a z o:=by
 cases z with
 |ow ds=>obtain⟨vs,h1,h2⟩:=h;exact⟨vs,h1,h2.mono e⟩
 |od kvs=>obtain⟨U,bI,h1,h2,h3⟩:=h;exact⟨U,bI,h1,fun b ks q=>Same.gK e (h2 b ks q),h3.mono e⟩
 |op ds=>obtain⟨vs,h1,h2⟩:=h;exact⟨vs,h1,h2.mono e⟩
 |_=>exact h.elim
theorem rN.tup{K:ah}{G:Hp}{a:ab}{z:Sl}{xs:List V}(h:rN K G a z (.tup xs)):False:=by
 cases z with
 |ow ds=>obtain⟨vs,h1,h2⟩:=h;cases h1
 |od kvs=>obtain⟨U,bI,h1,h2,h3⟩:=h;cases h1
 |op ds=>obtain⟨vs,h1,h2⟩:=h;cases h1
 |_=>exact h
abbrev au:=List Sl
structure Bs where
 g:Hp
 h:Hp
 p:ab
abbrev Wi:=Str->Int->St->Hp->Prop
def YD(fd:b9):Bool:=match fd.body with
 | .stmts ss=>(match ss.getLast? with
  |some (.Return (some (.Call _ _ (k::_) _)) _)=>(match k.value with|.Lambda _ _ _ _=>true|_=>false)
  |_=>false)
 |_=>false
def abR(K:ah):List (ab×Str):=K.filterMap fun p=>match p.2.data with
 | .func fd=>if YD fd then (match fd.code with
  | .ref c=>(match K.lookup c with
   |some oc=>(match oc.data with|.fields vs=>(match (vs[11]?:Option aa) with|some (.ref P)=>some (P,fd.qualname++(".<locals>.<lambda>":Str))|_=>none)|_=>none)
   |none=>none)
  |_=>none) else none
 |_=>none
def Cok(K:ah)(H:Hp):Prop:=∀x∈abR K,H x.1=some (.tab x.2)
theorem Cok.same{K:ah}{H H':Hp}(h:Cok K H)(e:Same H H'):Cok K H':=fun x m=>e _ _ (h x m)
theorem Cok.upd{K:ah}{H:Hp}{a:ab}{o u:HO}(h:Cok K H)(e:H a=some u)(n:∀q,u≠.tab q):Cok K (upd H a o):=fun x m=>by have:=h x m;rw[aZ (fun z=>by subst z;rw[e]at this;exact n _ (cz this))];exact this
theorem rN.tab{K:ah}{G:Hp}{a:ab}{z:Sl}{o:HO}(h:rN K G a z o):∀q,o≠.tab q:=fun q e=>by
 subst e;cases z with
 |ow ds=>obtain⟨vs,h1,h2⟩:=h;cases h1
 |od kvs=>obtain⟨U,bI,h1,h2,h3⟩:=h;cases h1
 |op ds=>obtain⟨vs,h1,h2⟩:=h;cases h1
 |_=>exact h
structure Ext (G H G' H':Hp):Prop where
 gg:Same G G'
 hh:Same H H'
 gh:Same G' H'
 tp:∀a xs,H' a=some (.tup xs)->G' a=some (.tup xs)
 nw:∀b o,H b=some o->G b=none->G' b=none
theorem Ext.trans{G H G1 H1 G2 H2:Hp}(a:Ext G H G1 H1)(b:Ext G1 H1 G2 H2):Ext G H G2 H2 :=
 ⟨a.gg.trans b.gg,a.hh.trans b.hh,b.gh,b.tp,fun c o h n=>b.nw c o (a.hh c o h) (a.nw c o h n)⟩
theorem Ext.refl{G H:Hp}(gh:Same G H)(tp:∀a xs,H a=some (.tup xs)->G a=some (.tup xs)):Ext G H G H:=⟨.refl _,.refl _,gh,tp,fun _ _ _ n=>n⟩
structure SR (K:ah)(B:Bs)(σ:St)(H:Hp)(ρ:au)(G:Hp):Prop where
 en:Ext B.1 B.2 G H
 len:ρ.length=σ.length
 fz:∀(i:Nat) (d:D),ρ[i]?=some (.fz d)->∃v,σ[i]?=some (some v)/\Rep K G d v
 own:∀(i:Nat) (z:Sl),ρ[i]?=some z->z.own=true->∃a o,σ[i]?=some (some (.ref a))/\H a=some o/\G a=none/\B.2 a=none/\rN K G a z o
 ap:∀(i j:Nat) (z z':Sl) (a:ab),ρ[i]?=some z->z.own=true->ρ[j]?=some z'->z'.own=true->σ[i]?=some (some (.ref a))->σ[j]?=some (some (.ref a))->i=j
 tie:∀(i:Nat) (ds:List D) (a:ab),ρ[i]?=some (.op ds)->σ[i]?=some (some (.ref a))->a=B.3
 co:Cok K H
structure Ex0 (K:ah)(G H:Hp):Prop extends Ext G H G H where
 co:Cok K H
section
variable{K:ah}{B:Bs}{σ:St}{H H' G G':Hp}{ρ:au}
theorem SR.yt(h:SR K B σ H ρ G):Ext G H G H:=.refl h.en.gh h.en.tp
theorem SR.ext(h:SR K B σ H ρ G)(e:Ext G H G' H'):SR K B σ H' ρ G' where
 en:=h.en.trans e
 len:=h.len
 fz:=fun i d q=>let ⟨v,h1,h2⟩:=h.fz i d q;⟨v,h1,h2.mono e.gg⟩
 own:=fun i z q w=>let ⟨a,o,h1,h2,h3,h4,h5⟩:=h.own i z q w;⟨a,o,h1,e.hh _ _ h2,e.nw _ _ h2 h3,h4,h5.mono e.gg⟩
 ap:=h.ap
 tie:=h.tie
 co:=h.co.same e.hh
theorem SR.ex0(h:SR K B σ H ρ G):Ex0 K G H:=⟨h.yt,h.co⟩
theorem SR.set(h:SR K B σ H ρ G){i:Nat}{d:D}{v:V}(r:Rep K G d v):SR K B (σ.set i (some v)) H (ρ.set i (.fz d)) G where
 en:=h.en
 len:=by simp[h.len]
 fz:=fun j d' q=>by
  by_cases e:i=j
  ·subst e;have hl:i < ρ.length:=by have:=(di.mp q).1;simpa using this
   rw[dk hl]at q;cases q;exact⟨v,dk (by rw[<- h.len];exact hl),r⟩
  ·rw[cS e]at q;rw[cS e];exact h.fz j d' q
 own:=fun j z q w=>by
  by_cases e:i=j
  ·subst e;have hl:i < ρ.length:=by have:=(di.mp q).1;simpa using this
   rw[dk hl]at q;cases q;cases w
  ·rw[cS e]at q;rw[cS e];exact h.own j z q w
 ap:=fun j k z z' a q1 w1 q2 w2 q3 q4=>by
  have ne:∀(l:Nat) (z:Sl),(ρ.set i (.fz d))[l]?=some z->z.own=true->i≠l:=fun l z q w e=>by
   subst e;have hl:i < ρ.length:=by have:=(di.mp q).1;simpa using this
   rw[dk hl]at q;cases q;cases w
  have n1:=ne j z q1 w1;have n2:=ne k z' q2 w2;rw[cS n1]at q1 q3;rw[cS n2]at q2 q4;exact h.ap j k z z' a q1 w1 q2 w2 q3 q4
 tie:=fun j ds a q1 q2=>by
  have e:i≠j:=fun e=>by
   subst e;have hl:i < ρ.length:=by have:=(di.mp q1).1;simpa using this
   rw[dk hl]at q1;cases q1
  rw[cS e]at q1 q2;exact h.tie j ds a q1 q2
 co:=h.co
theorem SR.ow(h:SR K B σ H ρ G)(i:Nat)(ds:List D)(q:ρ[i]?=some (.ow ds)):∃a vs,σ[i]?=some (some (.ref a))/\H a=some (.lst vs)/\G a=none/\B.2 a=none/\bL K G ds vs:=by obtain⟨a,o,h1,h2,h3,h4,vs,rfl,h5⟩:=h.own i _ q rfl;exact⟨a,vs,h1,h2,h3,h4,h5⟩
theorem Cp(gh:Same G H)(tp:∀a xs,H a=some (.tup xs)->G a=some (.tup xs)){p:ab}{xs:List V}(hp:H p=none):Ext G H (upd G p (.tup xs)) (upd H p (.tup xs)) where
 gg:=fun b o e=>by rw[aZ (aY (gh _ _ e) hp)];exact e
 hh:=fun b o e=>by rw[aZ (aY e hp)];exact e
 gh:=fun b o e=>by
  by_cases q:b=p
  ·subst q;rw[bA]at e ⊢;exact e
  ·rw[aZ q]at e ⊢;exact gh _ _ e
 tp:=fun b ys e=>by
  by_cases q:b=p
  ·subst q;rw[bA]at e ⊢;exact e
  ·rw[aZ q]at e ⊢;exact tp _ _ e
 nw:=fun b o e n=>by rw[aZ (aY e hp)];exact n
theorem nJ(gh:Same G H)(tp:∀a xs,H a=some (.tup xs)->G a=some (.tup xs)){p:ab}{xs:List V}(hp:H p=none):Ext G H (upd G p (.lst xs)) (upd H p (.lst xs)) where
 gg:=fun b o e=>by rw[aZ (aY (gh _ _ e) hp)];exact e
 hh:=fun b o e=>by rw[aZ (aY e hp)];exact e
 gh:=fun b o e=>by
  by_cases q:b=p
  ·subst q;rw[bA]at e ⊢;exact e
  ·rw[aZ q]at e ⊢;exact gh _ _ e
 tp:=fun b ys e=>by
  by_cases q:b=p
  ·subst q;rw[bA]at e;cases e
  ·rw[aZ q]at e ⊢;exact tp _ _ e
 nw:=fun b o e n=>by rw[aZ (aY e hp)];exact n
theorem YF(gh:Same G H)(tp:∀a xs,H a=some (.tup xs)->G a=some (.tup xs)){p:ab}{o:HO}(ho:∀xs,o≠.tup xs)(hp:H p=none):Ext G H G (upd H p o) where
 gg:=.refl _
 hh:=fun b o e=>by rw[aZ (aY e hp)];exact e
 gh:=fun b o e=>by rw[aZ (aY (gh _ _ e) hp)];exact gh _ _ e
 tp:=fun b ys e=>by
  by_cases q:b=p
  ·subst q;rw[bA]at e;cases e;exact absurd rfl (ho ys)
  ·rw[aZ q]at e;exact tp _ _ e
 nw:=fun b o e n=>n
theorem KN(gh:Same G H)(tp:∀a xs,H a=some (.tup xs)->G a=some (.tup xs)){p:ab}{xs:List V}(hp:H p=none):Ext G H G (upd H p (.lst xs)) where
 gg:=.refl _
 hh:=fun b o e=>by rw[aZ (aY e hp)];exact e
 gh:=fun b o e=>by rw[aZ (aY (gh _ _ e) hp)];exact gh _ _ e
 tp:=fun b ys e=>by
  by_cases q:b=p
  ·subst q;rw[bA]at e;cases e
  ·rw[aZ q]at e;exact tp _ _ e
 nw:=fun b o e n=>n
end
def Post(K:ah)(W:Wi)(σ:St)(G H:Hp)(r:Rs D)(Q:VK):Prop :=
 match r with
 | .ok d=>∀v H' G',Ext G H G' H'->Rep K G' d v->Q v H'
 | .ex c n=>∀H' G',Ext G H G' H'->W c n σ H'
 | .no=>False
def tF(K:ah)(B:Bs)(W:Wi)(f:au->Rs D):TE:=fun σ H Q=>∃ρ G,SR K B σ H ρ G/\Post K W σ G H (f ρ) Q
def SE(X:Cx)(B:Bs)(W:Wi)(e:ag)(f:au->Rs D):Prop:=PE X e (tF X.K B W f)
theorem PE.imp{X:Cx}{e:ag}{t t':TE}(h:PE X e t)(i:∀σ H Q,t' σ H Q->t σ H Q):PE X e t':=fun pins s σ H Q I q=>h pins s σ H Q I (i σ H Q q)
theorem PT.imp{X:Cx}{e:ag}{t t':TT}(h:PT X e t)(i:∀σ H Q,t' σ H Q->t σ H Q):PT X e t':=fun pins s σ H Q I q=>h pins s σ H Q I (i σ H Q q)
theorem PA.imp{X:Cx}{e:List ag}{t t':TA}(h:PA X e t)(i:∀σ H Q,t' σ H Q->t σ H Q):PA X e t':=fun pos pins s σ H Q I q=>h pos pins s σ H Q I (i σ H Q q)
theorem PS.imp{X:Cx}{e:be}{t t':TS}(h:PS X e t)(i:∀De σ H,t' De σ H->t De σ H):PS X e t':=fun pins s σ H De I q=>h pins s σ H De I (i De σ H q)
theorem Vx.imp{X:Cx}{e:List be}{t t':TS}(h:Vx X e t)(i:∀De σ H,t' De σ H->t De σ H):Vx X e t':=fun pins s σ H De I q=>h pins s σ H De I (i De σ H q)
section
variable{X:Cx}{K:ah}{B:Bs}{W:Wi}{σ:St}{G H:Hp}{ρ:au}{Q Q':VK}
theorem Post.mono{r:Rs D}(h:Post K W σ G H r Q)(i:∀v H',Q v H'->Q' v H'):Post K W σ G H r Q':=by
 cases r with
 |ok d=>exact fun v H' G' e r=>i _ _ (h v H' G' e r)
 |ex c n=>exact h
 |no=>exact h
theorem Post.ext{r:Rs D}{G' H':Hp}(e:Ext G H G' H')(h:Post K W σ G H r Q):Post K W σ G' H' r Q:=by
 cases r with
 |ok d=>exact fun v Qz G'' e' r=>h v Qz G'' (e.trans e') r
 |ex c n=>exact fun Qz G'' e'=>h Qz G'' (e.trans e')
 |no=>exact h
theorem Post.bind{r:Rs D}{k:D->Rs D}(h:Post K W σ G H (r.bind k) Q) :
  Post K W σ G H r fun v H1=>∃G1 d,Ext G H G1 H1/\Rep K G1 d v/\Post K W σ G1 H1 (k d) Q:=by
 cases r with
 |ok d=>exact fun v H' G' e r=>⟨G',d,e,r,Post.ext e h⟩
 |ex c n=>exact h
 |no=>exact h
theorem Post.ok{d:D}{v:V}(s:SR K B σ H ρ G)(h:Post K W σ G H (.ok d) Q)(r:Rep K G d v):Q v H:=h v H G s.yt r
theorem vW{f:au->Rs D}{k:au->D->Rs D}(h:tF K B W (fun ρ=>(f ρ).bind (k ρ)) σ H Q) :
  tF K B W f σ H fun v H1=>∃ρ G1 d,SR K B σ H1 ρ G1/\Rep K G1 d v/\Post K W σ G1 H1 (k ρ d) Q:=by
 obtain⟨ρ,G,s,p⟩:=h;exact⟨ρ,G,s,p.bind.mono fun v H1 ⟨G1,d,e,r,q⟩=>⟨ρ,G1,d,s.ext e,r,q⟩⟩
theorem abS{f:au->Rs D}{k:D->D->Rs D}{v:V}(h:∃ρ G1 d,SR K B σ H ρ G1/\Rep K G1 d v/\Post K W σ G1 H ((f ρ).bind (k d)) Q) :
  tF K B W f σ H fun u H1=>∃ρ G1 d d',SR K B σ H1 ρ G1/\Rep K G1 d v/\Rep K G1 d' u/\Post K W σ G1 H1 (k d d') Q:=by
 obtain⟨ρ,G,d,s,r,p⟩:=h;exact⟨ρ,G,s,p.bind.mono fun u H1 ⟨G1,d',e,r',q⟩=>⟨ρ,G1,d,d',s.ext e,r.mono e.gg,r',q⟩⟩
def aJ(i:Nat):au->Rs D:=fun ρ=>match ρ[i]? with|some (.fz d)=>.ok d|_=>.no
def fC(d:D):au->Rs D:=fun _=>.ok d
theorem aiL{e:ag}{i:Nat}(h:PE X e (GD i)):SE X B W e (aJ i):=PE.imp h fun σ H Q ⟨ρ,G,s,p⟩=>by
 unfold aJ at p;cases q:ρ[i]? with
 |none=>rw[q]at p;exact p.elim
 |some x =>
  rw[q]at p;cases x with
  |no=>exact p.elim
  |ow _=>exact p.elim
  |od _=>exact p.elim
  |op _=>exact p.elim
  |fz d =>
   obtain⟨v,h1,h2⟩:=s.fz i d q;exact⟨v,h1,Post.ok s p h2⟩
theorem sv(i:Nat) {x:Str}{pos:Pos}(hN:X.N[i]?=some x:=by rfl) (hv:Kv X.env.scope x:=by first|exact Or.inl rfl|exact Or.inr (Or.inl rfl)|exact Or.inr (Or.inr rfl)) (hd:(x == ("__debug__":Str))=false:=by decide)
  (hcd:(x == ("__classdict__":Str))=false:=by decide):SE X B W (.Name x pos) (aJ i):=aiL (gO hN hv hd hcd)
theorem aly{e:ag}{v:V}{d:D}(h:PE X e (tC v))(r:∀G,Rep X.K G d v):SE X B W e (fC d):=PE.imp h fun σ H Q ⟨ρ,G,s,p⟩=>Post.ok s p (r G)
theorem aG{i:Int}{j pos}:SE X B W (.Constant (.int i) j pos) (fC (.int i)):=aly ail fun _=>aM.mpr rfl
theorem mL{b:Bool}{j pos}:SE X B W (.Constant (.bool b) j pos) (fC (.bl b)):=aly akX fun _=>bK.mpr rfl
def bZ(g:D->D->Rs D)(fa fb:au->Rs D):au->Rs D:=fun ρ=>(fa ρ).bind fun x=>(fb ρ).bind fun y=>g x y
def QB(K:ah)(r:R2)(g:D->D->Rs D):Prop :=
 ∀(B:Bs) (W:Wi) (σ:St) (ρ:au) (G H:Hp) (x y:D) (v u:V) (Q:VK),SR K B σ H ρ G->Rep K G x v->Rep K G y u->Post K W σ G H (g x y) Q->r v u H Q
theorem Dg{r:R2}{g:D->D->Rs D}{fa fb:au->Rs D}(ho:QB K r g)(h:tF K B W (bZ g fa fb) σ H Q):tOp r (tF K B W fa) (tF K B W fb) σ H Q:=by obtain⟨ρ,G,s,p⟩:=vW (k:=fun ρ x=>(fb ρ).bind fun y=>g x y) h;refine⟨ρ,G,s,p.mono fun v H1 h1=>?_⟩;obtain⟨ρ,G,s,p⟩:=abS (k:=g) h1;exact⟨ρ,G,s,p.mono fun u H2 ⟨ρ2,G2,d,d',s2,r1,r2,p2⟩=>ho B W σ ρ2 G2 H2 d d' v u Q s2 r1 r2 p2⟩
theorem Jm{a b:ag}{op:Operator}{pos:Pos}{r:R2}{g:D->D->Rs D}{fa fb:au->Rs D}(ho:uL X (gL op) r)(hg:QB X.K r g)(ha:SE X B W a fa)(hb:SE X B W b fb):SE X B W (.BinOp a op b pos) (bZ g fa fb) :=
 PE.imp (ahy ho ha hb) fun _ _ _ h=>Dg hg h
def gI(C:Int->Int->Prop)[∀i j,Decidable (C i j)](g:Int->Int->D):D->D->Rs D
 | .int i,.int j=>if C i j then .ok (g i j) else .no
 |_,_=>.no
theorem QC{C:Int->Int->Prop}[∀i j,Decidable (C i j)]{gv:Int->Int->V}{g:Int->Int->D}(hg:∀G i j,Rep K G (g i j) (gv i j)):QB K (rI C gv) (gI C g):=by
 intro B W σ ρ G H x y v u Q s rx ry p;cases x <;> first|exact p.elim|skip
 rename_i i;cases y <;> first|exact p.elim|skip
 rename_i j;simp only[gI]at p;by_cases c:C i j
 ·rw[if_pos c]at p;exact⟨i,j,aM.mp rx,aM.mp ry,c,Post.ok s p (hg G i j)⟩
 ·rw[if_neg c]at p;exact p.elim
def gI0(g:Int->Int->D):D->D->Rs D
 | .int i,.int j=>.ok (g i j)
 |_,_=>.no
theorem Dh{gv:Int->Int->V}{g:Int->Int->D}(hg:∀G i j,Rep K G (g i j) (gv i j)):QB K (rI0 gv) (gI0 g):=by
 intro B W σ ρ G H x y v u Q s rx ry p;cases x <;> first|exact p.elim|skip
 rename_i i;cases y <;> first|exact p.elim|skip
 rename_i j;exact⟨i,j,aM.mp rx,aM.mp ry,Post.ok s p (hg G i j)⟩
end
mutual
def vQ:D->D->Bool
 | .tup a,.tup b=>Di a b
 | .lst a,.lst b=>Di a b
 | .non,.non=>true
 | .bl a,.bl b=>a == b
 | .bl a,.int b=>(if a then 1 else 0) == b
 | .int a,.bl b=>a == (if b then 1 else 0)
 | .int a,.int b=>a == b
 | .str a,.str b=>a == b
 | .mZ a b,.mZ c d=>a == c && b == d
 | .je _ _,.je _ _=>true
 |_,_=>false
def Di:List D->List D->Bool
 | [],[]=>true
 |a::as,b::bs=>vQ a b && Di as bs
 |_,_=>false
end
mutual
def cO:D->Nat
 | .tup a=>jF a + 1
 | .lst a=>jF a + 1
 | .mZ _ _=>bo
 | .je _ _=>bo
 |_=>0
def jF:List D->Nat
 | []=>0
 |a::as=>Nat.max (cO a) (jF as)
end
mutual
theorem vX:∀d:D,vQ d d=true
 | .non=>by simp[vQ]
 | .bl _=>by simp[vQ]
 | .int _=>by simp[vQ]
 | .str _=>by simp[vQ]
 | .tup a=>by simp[vQ,yu a]
 | .lst a=>by simp[vQ,yu a]
 | .mZ _ _=>by simp[vQ]
 | .je _ _=>by simp[vQ]
theorem yu:∀d:List D,Di d d=true
 | []=>by simp[Di]
 |a::as=>by simp[Di,vX a,yu as]
end
theorem dZ:∀(a b:List D),((bu (min a.length b.length)).all (fun j=>vQ (a.getD j .non) (b.getD j .non)) && a.length == b.length)=Di a b
 | [],[]=>by simp[Di]
 | [],b::bs=>by simp[Di]
 |a::as,[]=>by simp[Di]
 |a::as,b::bs=>by have ih:=dZ as bs;rw[Di,<- ih];rw[show min (a::as).length (b::bs).length=min as.length bs.length + 1 by simp];rw[lj,sx,sC];simp[o5,Bool.and_assoc]
theorem KQ{d:D}:∀{ds:List D},d∈ds->cO d<=jF ds
 | [],h=>by cases h
 |x::xs,h=>by
  rw[jF];rcases bz.mp h with rfl|h
  ·exact Nat.le_max_left _ _
  ·exact cx (KQ h) (Nat.le_max_right _ _)
section
variable{X:Cx}{pins:List (ab×Obj)}{σ:St}{H:Hp}{s:ae}
theorem QD(I:Inv X pins σ H s){a:ab}{xs ys:List V}(h:rG X.K H a xs)(h':pB X.K H a ys):False:=by obtain⟨_,_,⟨o,n,e,c,_,_⟩,_⟩:=I.list h;obtain⟨_,_,⟨o',e',c',_⟩,_⟩:=I.tuple h';rw[e]at e';cases e';rw[c]at c';exact absurd c' (by decide)
theorem QF(I:Inv X pins σ H s){a:ab}{xs:List V}{φ:Heap->Prop}(h:pB X.K H a xs)(h':H a=some (.ext φ)):False:=by
 rcases h with (h|⟨o,h⟩)|⟨o,its,n,hk,_⟩
 ·rw[h']at h;cases h
 ·rw[h']at h;cases h
 ·have:=(I.bs a o (I.mod.kin a o hk)).2;rw[h']at this;cases this
theorem QG(I:Inv X pins σ H s){a:ab}{xs:List V}{φ:Heap->Prop}(h:rG X.K H a xs)(h':H a=some (.ext φ)):False:=by
 rcases h with (h|⟨o,h⟩)|⟨o,its,n,hk,_⟩
 ·rw[h']at h;cases h
 ·rw[h']at h;cases h
 ·have:=(I.bs a o (I.mod.kin a o hk)).2;rw[h']at this;cases this
mutual
theorem Rep.inj(I:Inv X pins σ H s):∀{d d':D}{v:V},cO d < bo->Rep X.K H d v->Rep X.K H d' v->d=d'
 | .non,d',v,_,h,h'=>by
  rw[bR.mp h]at h';cases d' <;> simp only[Rep]at h' <;> first|rfl|(obtain⟨a,vs,e,_⟩:=h';cases e;done)|(obtain⟨a,U,bI,e,_⟩:=h';cases e;done)|(cases h';rfl)|cases h'
 | .bl _,d',v,_,h,h'=>by
  rw[bK.mp h]at h';cases d' <;> simp only[Rep]at h' <;> first|rfl|(obtain⟨a,vs,e,_⟩:=h';cases e;done)|(obtain⟨a,U,bI,e,_⟩:=h';cases e;done)|(cases h';rfl)|cases h'
 | .int _,d',v,_,h,h'=>by
  rw[aM.mp h]at h';cases d' <;> simp only[Rep]at h' <;> first|rfl|(obtain⟨a,vs,e,_⟩:=h';cases e;done)|(obtain⟨a,U,bI,e,_⟩:=h';cases e;done)|(cases h';rfl)|cases h'
 | .str _,d',v,_,h,h'=>by
  rw[bU.mp h]at h';cases d' <;> simp only[Rep]at h' <;> first|rfl|(obtain⟨a,vs,e,_⟩:=h';cases e;done)|(obtain⟨a,U,bI,e,_⟩:=h';cases e;done)|(cases h';rfl)|cases h'
 | .tup ds,d',v,hd,h,h'=>by
  obtain⟨a,vs,rfl,q,r⟩:=bw.mp h;cases d' with
  |tup es =>
   obtain⟨b,us,e,q',r'⟩:=bw.mp h';cases e;rw[I.yh q' q]at r';rw[bL.inj I (by simp only[cO]at hd;lia) r r']
  |lst es =>
   obtain⟨b,us,e,q',r'⟩:=aW.mp h';cases e;exact(QD I q' q).elim
  |mZ c n =>
   obtain⟨b,C,e,_,q'⟩:=YC.mp h';cases e;exact(QF I q q').elim
  |je c n =>
   obtain⟨b,U,bI,e,⟨_,q'⟩,_⟩:=qe.mp h';cases e;exact(QF I q q').elim
  |_=>simp only[Rep]at h';cases h'
 | .lst ds,d',v,hd,h,h'=>by
  obtain⟨a,vs,rfl,q,r⟩:=aW.mp h;cases d' with
  |lst es =>
   obtain⟨b,us,e,q',r'⟩:=aW.mp h';cases e;rw[I.Qt q' q]at r';rw[bL.inj I (by simp only[cO]at hd;lia) r r']
  |tup es =>
   obtain⟨b,us,e,q',r'⟩:=bw.mp h';cases e;exact(QD I q q').elim
  |mZ c n =>
   obtain⟨b,C,e,_,q'⟩:=YC.mp h';cases e;exact(QG I q q').elim
  |je c n =>
   obtain⟨b,U,bI,e,⟨_,q'⟩,_⟩:=qe.mp h';cases e;exact(QG I q q').elim
  |_=>simp only[Rep]at h';cases h'
 | .mZ _ _,d',v,hd,h,h'=>by simp only[cO]at hd;exact absurd hd (f9 _)
 | .je _ _,d',v,hd,h,h'=>by simp only[cO]at hd;exact absurd hd (f9 _)
theorem bL.inj(I:Inv X pins σ H s):∀{ds es:List D}{vs:List V},jF ds < bo->bL X.K H ds vs->bL X.K H es vs->ds=es
 | [],es,vs,_,h,h'=>by
  rw[bG.mp h]at h';cases es with
  |nil=>rfl
  |cons e es=>obtain⟨v,vs',e1,_⟩:=aQ.mp h';cases e1
 |d::ds,es,vs,hd,h,h'=>by
  obtain⟨v,vs',rfl,r1,r2⟩:=aQ.mp h;simp only[jF]at hd;cases es with
  |nil=>have:=bG.mp h';cases this
  |cons e es =>
   obtain⟨v',vs'',e1,r1',r2'⟩:=aQ.mp h';cases e1;rw[Rep.inj I (i5 (Nat.le_max_left _ _) hd) r1 r1',bL.inj I (i5 (Nat.le_max_right _ _) hd) r2 r2']
end
theorem Dj(I:Inv X pins σ H s){m:Nat}{A:a8}{ds es:List D}{vs us:List V}{its its2:List aa}
  (ih:∀{d d':D}{v v':V}{u u':aa}{A:a8},cO d<=m->cO d'<=m->A.units + m < bo->Rep X.K H d v->Rep X.K H d' v'->RelV v u->RelV v' u'->mP A s u u' (vQ d d'))
  (hn:jF ds<=m) (hn':jF es<=m) (hu:A.in1.units + m < bo) (r1:bL X.K H ds vs) (r2:bL X.K H es us) (a1:Vals vs its) (a2:Vals us its2) :
  ∀j (h1:j < its.toArray.size) (h2:j < its2.toArray.size),mP A.in1 s its.toArray[j] its2.toArray[j] (vQ (ds.getD j .non) (es.getD j .non)):=by
 intro j h1 h2;have l1:j < ds.length:=by rw[r1.length,a1.length];simpa using h1
 have l2:j < es.length:=by rw[r2.length,a2.length];simpa using h2
 obtain⟨x,hx,rx⟩:=r1.get (i:=j) (d:=ds[j]) (by simp[l1]);obtain⟨y,hy,ry⟩:=r2.get (i:=j) (d:=es[j]) (by simp[l2]);obtain⟨p,hp,rp⟩:=a1.get hx;obtain⟨q,hq,rq⟩:=a2.get hy;have e1:its.toArray[j]=p:=by have:=(di.mp hp).2;simpa using this
 have e2:its2.toArray[j]=q:=by have:=(di.mp hq).2;simpa using this
 rw[e1,e2,eK,eK,d4 l1,d4 l2];exact ih (cx (KQ (eB l1)) hn) (cx (KQ (eB l2)) hn') hu rx ry rp rq
open SeqAt in
theorem aiM(I:Inv X pins σ H s):∀(n:Nat) {d d':D}{v v':V}{u u':aa}{A:a8},cO d<=n->cO d'<=n->A.units + n < bo->Rep X.K H d v->Rep X.K H d' v'->RelV v u->RelV v' u'->EqAt A s u u' (vQ d d'):=by
 intro n
 induction n with
 |zero =>
  intro d d' v v' u u' A hd hd' hu r r' e e';have hu0:A.units < bo:=by lia
  cases d with
  |non =>
   rw[bR.mp r]at e;cases e;cases d' with
   |non =>
    rw[bR.mp r']at e';cases e';exact EqAt.same _
   |bl b =>
    rw[bK.mp r']at e';cases e';exact EqAt.none_bool b
   |int b =>
    rw[aM.mp r']at e';obtain⟨t',rfl⟩:=e';exact EqAt.none_int b t'
   |str b =>
    rw[bU.mp r']at e';obtain⟨t',rfl⟩:=e';exact EqAt.none_str b t'
   |tup es =>
    obtain⟨b,us,rfl,q',rr'⟩:=bw.mp r';cases e';obtain⟨its2,jq,t2,_⟩:=I.tuple q';exact EqAt.none_tuple t2 hu0
   |lst es =>
    obtain⟨b,us,rfl,q',rr'⟩:=aW.mp r';cases e';obtain⟨its2,jq,t3,_⟩:=I.list q';have t2:=t3.isList;exact EqAt.none_list t2 hu0
   |mZ c m =>
    simp only[cO]at hd';exact absurd hu (by lia)
   |je c m =>
    simp only[cO]at hd';exact absurd hu (by lia)
  |bl x =>
   rw[bK.mp r]at e;cases e;cases d' with
   |non =>
    rw[bR.mp r']at e';cases e';exact EqAt.bool_none x
   |bl b =>
    rw[bK.mp r']at e';cases e';exact EqAt.bool_bool x b
   |int b =>
    rw[aM.mp r']at e';obtain⟨t',rfl⟩:=e';exact EqAt.bool_int x b t'
   |str b =>
    rw[bU.mp r']at e';obtain⟨t',rfl⟩:=e';exact EqAt.bool_str x b t'
   |tup es =>
    obtain⟨b,us,rfl,q',rr'⟩:=bw.mp r';cases e';obtain⟨its2,jq,t2,_⟩:=I.tuple q';exact EqAt.bool_tuple x t2 hu0
   |lst es =>
    obtain⟨b,us,rfl,q',rr'⟩:=aW.mp r';cases e';obtain⟨its2,jq,t3,_⟩:=I.list q';have t2:=t3.isList;exact EqAt.bool_list x t2 hu0
   |mZ c m =>
    simp only[cO]at hd';exact absurd hu (by lia)
   |je c m =>
    simp only[cO]at hd';exact absurd hu (by lia)
  |int x =>
   rw[aM.mp r]at e;obtain⟨t0,rfl⟩:=e;cases d' with
   |non =>
    rw[bR.mp r']at e';cases e';exact EqAt.int_none x t0
   |bl b =>
    rw[bK.mp r']at e';cases e';exact EqAt.int_bool x t0 b
   |int b =>
    rw[aM.mp r']at e';obtain⟨t',rfl⟩:=e';exact EqAt.int_int x t0 b t'
   |str b =>
    rw[bU.mp r']at e';obtain⟨t',rfl⟩:=e';exact EqAt.int_str x t0 b t'
   |tup es =>
    obtain⟨b,us,rfl,q',rr'⟩:=bw.mp r';cases e';obtain⟨its2,jq,t2,_⟩:=I.tuple q';exact EqAt.int_tuple x t0 t2 hu0
   |lst es =>
    obtain⟨b,us,rfl,q',rr'⟩:=aW.mp r';cases e';obtain⟨its2,jq,t3,_⟩:=I.list q';have t2:=t3.isList;exact EqAt.int_list x t0 t2 hu0
   |mZ c m =>
    simp only[cO]at hd';exact absurd hu (by lia)
   |je c m =>
    simp only[cO]at hd';exact absurd hu (by lia)
  |str x =>
   rw[bU.mp r]at e;obtain⟨t0,rfl⟩:=e;cases d' with
   |non =>
    rw[bR.mp r']at e';cases e';exact EqAt.str_none x t0
   |bl b =>
    rw[bK.mp r']at e';cases e';exact EqAt.str_bool x t0 b
   |int b =>
    rw[aM.mp r']at e';obtain⟨t',rfl⟩:=e';exact EqAt.str_int x t0 b t'
   |str b =>
    rw[bU.mp r']at e';obtain⟨t',rfl⟩:=e';exact EqAt.str_str x t0 b t'
   |tup es =>
    obtain⟨b,us,rfl,q',rr'⟩:=bw.mp r';cases e';obtain⟨its2,jq,t2,_⟩:=I.tuple q';exact EqAt.str_tuple x t0 t2 hu0
   |lst es =>
    obtain⟨b,us,rfl,q',rr'⟩:=aW.mp r';cases e';obtain⟨its2,jq,t3,_⟩:=I.list q';have t2:=t3.isList;exact EqAt.str_list x t0 t2 hu0
   |mZ c m =>
    simp only[cO]at hd';exact absurd hu (by lia)
   |je c m =>
    simp only[cO]at hd';exact absurd hu (by lia)
  |tup ds =>
   obtain⟨a,vs,rfl,q,rr⟩:=bw.mp r;cases e;obtain⟨its,av,t,_⟩:=I.tuple q;cases d' with
   |non =>
    rw[bR.mp r']at e';cases e';exact EqAt.tuple_none t hu0
   |bl b =>
    rw[bK.mp r']at e';cases e';exact EqAt.tuple_bool b t hu0
   |int b =>
    rw[aM.mp r']at e';obtain⟨t',rfl⟩:=e';exact EqAt.tuple_int b t' t hu0
   |str b =>
    rw[bU.mp r']at e';obtain⟨t',rfl⟩:=e';exact EqAt.tuple_str b t' t hu0
   |tup es =>
    obtain⟨b,us,rfl,q',rr'⟩:=bw.mp r';cases e';obtain⟨its2,jq,t2,_⟩:=I.tuple q';simp only[cO]at hd;lia
   |lst es =>
    obtain⟨b,us,rfl,q',rr'⟩:=aW.mp r';cases e';obtain⟨its2,jq,t3,_⟩:=I.list q';have t2:=t3.isList;exact EqAt.tuple_list t t2 hu0
   |mZ c m =>
    simp only[cO]at hd';exact absurd hu (by lia)
   |je c m =>
    simp only[cO]at hd';exact absurd hu (by lia)
  |lst ds =>
   obtain⟨a,vs,rfl,q,rr⟩:=aW.mp r;cases e;obtain⟨its,av,t1,_⟩:=I.list q;have t:=t1.isList;cases d' with
   |non =>
    rw[bR.mp r']at e';cases e';exact EqAt.list_none t hu0
   |bl b =>
    rw[bK.mp r']at e';cases e';exact EqAt.list_bool b t hu0
   |int b =>
    rw[aM.mp r']at e';obtain⟨t',rfl⟩:=e';exact EqAt.list_int b t' t hu0
   |str b =>
    rw[bU.mp r']at e';obtain⟨t',rfl⟩:=e';exact EqAt.list_str b t' t hu0
   |tup es =>
    obtain⟨b,us,rfl,q',rr'⟩:=bw.mp r';cases e';obtain⟨its2,jq,t2,_⟩:=I.tuple q';exact EqAt.list_tuple t t2 hu0
   |lst es =>
    obtain⟨b,us,rfl,q',rr'⟩:=aW.mp r';cases e';obtain⟨its2,jq,t3,_⟩:=I.list q';have t2:=t3.isList;simp only[cO]at hd;lia
   |mZ c m =>
    simp only[cO]at hd';exact absurd hu (by lia)
   |je c m =>
    simp only[cO]at hd';exact absurd hu (by lia)
  |mZ c m =>
   simp only[cO]at hd;exact absurd hu (by lia)
  |je c m =>
   simp only[cO]at hd;exact absurd hu (by lia)
 |succ m ih =>
  intro d d' v v' u u' A hd hd' hu r r' e e';have hu0:A.units < bo:=by lia
  cases d with
  |non =>
   rw[bR.mp r]at e;cases e;cases d' with
   |non =>
    rw[bR.mp r']at e';cases e';exact EqAt.same _
   |bl b =>
    rw[bK.mp r']at e';cases e';exact EqAt.none_bool b
   |int b =>
    rw[aM.mp r']at e';obtain⟨t',rfl⟩:=e';exact EqAt.none_int b t'
   |str b =>
    rw[bU.mp r']at e';obtain⟨t',rfl⟩:=e';exact EqAt.none_str b t'
   |tup es =>
    obtain⟨b,us,rfl,q',rr'⟩:=bw.mp r';cases e';obtain⟨its2,jq,t2,_⟩:=I.tuple q';exact EqAt.none_tuple t2 hu0
   |lst es =>
    obtain⟨b,us,rfl,q',rr'⟩:=aW.mp r';cases e';obtain⟨its2,jq,t3,_⟩:=I.list q';have t2:=t3.isList;exact EqAt.none_list t2 hu0
   |mZ c m =>
    simp only[cO]at hd';exact absurd hu (by lia)
   |je c m =>
    simp only[cO]at hd';exact absurd hu (by lia)
  |bl x =>
   rw[bK.mp r]at e;cases e;cases d' with
   |non =>
    rw[bR.mp r']at e';cases e';exact EqAt.bool_none x
   |bl b =>
    rw[bK.mp r']at e';cases e';exact EqAt.bool_bool x b
   |int b =>
    rw[aM.mp r']at e';obtain⟨t',rfl⟩:=e';exact EqAt.bool_int x b t'
   |str b =>
    rw[bU.mp r']at e';obtain⟨t',rfl⟩:=e';exact EqAt.bool_str x b t'
   |tup es =>
    obtain⟨b,us,rfl,q',rr'⟩:=bw.mp r';cases e';obtain⟨its2,jq,t2,_⟩:=I.tuple q';exact EqAt.bool_tuple x t2 hu0
   |lst es =>
    obtain⟨b,us,rfl,q',rr'⟩:=aW.mp r';cases e';obtain⟨its2,jq,t3,_⟩:=I.list q';have t2:=t3.isList;exact EqAt.bool_list x t2 hu0
   |mZ c m =>
    simp only[cO]at hd';exact absurd hu (by lia)
   |je c m =>
    simp only[cO]at hd';exact absurd hu (by lia)
  |int x =>
   rw[aM.mp r]at e;obtain⟨t0,rfl⟩:=e;cases d' with
   |non =>
    rw[bR.mp r']at e';cases e';exact EqAt.int_none x t0
   |bl b =>
    rw[bK.mp r']at e';cases e';exact EqAt.int_bool x t0 b
   |int b =>
    rw[aM.mp r']at e';obtain⟨t',rfl⟩:=e';exact EqAt.int_int x t0 b t'
   |str b =>
    rw[bU.mp r']at e';obtain⟨t',rfl⟩:=e';exact EqAt.int_str x t0 b t'
   |tup es =>
    obtain⟨b,us,rfl,q',rr'⟩:=bw.mp r';cases e';obtain⟨its2,jq,t2,_⟩:=I.tuple q';exact EqAt.int_tuple x t0 t2 hu0
   |lst es =>
    obtain⟨b,us,rfl,q',rr'⟩:=aW.mp r';cases e';obtain⟨its2,jq,t3,_⟩:=I.list q';have t2:=t3.isList;exact EqAt.int_list x t0 t2 hu0
   |mZ c m =>
    simp only[cO]at hd';exact absurd hu (by lia)
   |je c m =>
    simp only[cO]at hd';exact absurd hu (by lia)
  |str x =>
   rw[bU.mp r]at e;obtain⟨t0,rfl⟩:=e;cases d' with
   |non =>
    rw[bR.mp r']at e';cases e';exact EqAt.str_none x t0
   |bl b =>
    rw[bK.mp r']at e';cases e';exact EqAt.str_bool x t0 b
   |int b =>
    rw[aM.mp r']at e';obtain⟨t',rfl⟩:=e';exact EqAt.str_int x t0 b t'
   |str b =>
    rw[bU.mp r']at e';obtain⟨t',rfl⟩:=e';exact EqAt.str_str x t0 b t'
   |tup es =>
    obtain⟨b,us,rfl,q',rr'⟩:=bw.mp r';cases e';obtain⟨its2,jq,t2,_⟩:=I.tuple q';exact EqAt.str_tuple x t0 t2 hu0
   |lst es =>
    obtain⟨b,us,rfl,q',rr'⟩:=aW.mp r';cases e';obtain⟨its2,jq,t3,_⟩:=I.list q';have t2:=t3.isList;exact EqAt.str_list x t0 t2 hu0
   |mZ c m =>
    simp only[cO]at hd';exact absurd hu (by lia)
   |je c m =>
    simp only[cO]at hd';exact absurd hu (by lia)
  |tup ds =>
   obtain⟨a,vs,rfl,q,rr⟩:=bw.mp r;cases e;obtain⟨its,av,t,_⟩:=I.tuple q;cases d' with
   |non =>
    rw[bR.mp r']at e';cases e';exact EqAt.tuple_none t hu0
   |bl b =>
    rw[bK.mp r']at e';cases e';exact EqAt.tuple_bool b t hu0
   |int b =>
    rw[aM.mp r']at e';obtain⟨t',rfl⟩:=e';exact EqAt.tuple_int b t' t hu0
   |str b =>
    rw[bU.mp r']at e';obtain⟨t',rfl⟩:=e';exact EqAt.tuple_str b t' t hu0
   |tup es =>
    obtain⟨b,us,rfl,q',rr'⟩:=bw.mp r';cases e';obtain⟨its2,jq,t2,_⟩:=I.tuple q';have hn:jF ds<=m:=by simp only[cO]at hd;lia
    have hn':jF es<=m:=by simp only[cO]at hd';lia
    by_cases hab:a=b
    ·subst hab;rw[Rep.inj I (by lia) r r',vX];exact EqAt.same _
    have items:=Dj I ih hn hn' (show A.in1.units + m < bo by show A.units + 1 + m < _;lia) rr rr' av jq;have h:=RcAt.tuples (A:=A) t t2 hu0 items;rw[cw,cw,<- av.length,<- jq.length,<- rr.length,<- rr'.length,dZ]at h;exact EqAt.of_refs hab h
   |lst es =>
    obtain⟨b,us,rfl,q',rr'⟩:=aW.mp r';cases e';obtain⟨its2,jq,t3,_⟩:=I.list q';have t2:=t3.isList;exact EqAt.tuple_list t t2 hu0
   |mZ c m =>
    simp only[cO]at hd';exact absurd hu (by lia)
   |je c m =>
    simp only[cO]at hd';exact absurd hu (by lia)
  |lst ds =>
   obtain⟨a,vs,rfl,q,rr⟩:=aW.mp r;cases e;obtain⟨its,av,t1,_⟩:=I.list q;have t:=t1.isList;cases d' with
   |non =>
    rw[bR.mp r']at e';cases e';exact EqAt.list_none t hu0
   |bl b =>
    rw[bK.mp r']at e';cases e';exact EqAt.list_bool b t hu0
   |int b =>
    rw[aM.mp r']at e';obtain⟨t',rfl⟩:=e';exact EqAt.list_int b t' t hu0
   |str b =>
    rw[bU.mp r']at e';obtain⟨t',rfl⟩:=e';exact EqAt.list_str b t' t hu0
   |tup es =>
    obtain⟨b,us,rfl,q',rr'⟩:=bw.mp r';cases e';obtain⟨its2,jq,t2,_⟩:=I.tuple q';exact EqAt.list_tuple t t2 hu0
   |lst es =>
    obtain⟨b,us,rfl,q',rr'⟩:=aW.mp r';cases e';obtain⟨its2,jq,t3,_⟩:=I.list q';have t2:=t3.isList;have hn:jF ds<=m:=by simp only[cO]at hd;lia
    have hn':jF es<=m:=by simp only[cO]at hd';lia
    by_cases hab:a=b
    ·subst hab;rw[Rep.inj I (by lia) r r',vX];exact EqAt.same _
    have items:=Dj I ih hn hn' (show A.in1.units + m < bo by show A.units + 1 + m < _;lia) rr rr' av jq;by_cases hl:its.toArray.size=its2.toArray.size
    ·have h:=RcAt.lists (A:=A) t t2 hl hu0 items;rw[cw,<- av.length,<- rr.length]at h;have hl':ds.length=es.length:=by rw[rr.length,rr'.length,av.length,jq.length];simpa using hl
     have e1:=dZ ds es;rw[hl',sD]at e1;simp only[beq_self_eq_true,o6]at e1;rw[hl',e1]at h;exact EqAt.of_refs hab h
    ·have h:=RcAt.lists_lengths (A:=A) t t2 (by simpa using hl) hu0;have hl':ds.length≠es.length:=by rw[rr.length,rr'.length,av.length,jq.length];simpa using hl
     have e1:=dZ ds es;rw[show(ds.length == es.length)=false by simpa using hl',nz]at e1;rw[show vQ (.lst ds) (.lst es)=false by rw[vQ,<- e1]];exact EqAt.of_refs hab h
   |mZ c m =>
    simp only[cO]at hd';exact absurd hu (by lia)
   |je c m =>
    simp only[cO]at hd';exact absurd hu (by lia)
  |mZ c m =>
   simp only[cO]at hd;exact absurd hu (by lia)
  |je c m =>
   simp only[cO]at hd;exact absurd hu (by lia)
end
section
variable{X:Cx}{pins:List (ab×Obj)}{σ:St}{H:Hp}{s:ae}
theorem vY(I:Inv X pins σ H s){m:Nat}{A:a8}{ds es:List D}{vs us:List V}{its its2:List aa}(hn:jF ds<=m)(hn':jF es<=m)(hu:A.in1.units + m < bo)(r1:bL X.K H ds vs)(r2:bL X.K H es us)(a1:Vals vs its)(a2:Vals us its2) :
  ∀j (h1:j < its.toArray.size) (h2:j < its2.toArray.size),mP A.in1 s its.toArray[j] its2.toArray[j] (vQ (ds.getD j .non) (es.getD j .non)) :=
 Dj I (fun a b c d e f g=>aiM I m a b c d e f g) hn hn' hu r1 r2 a1 a2
open SeqAt in
theorem aiN(I:Inv X pins σ H s){n:Nat}{d d':D}{v v':V}{u u':aa}{A:a8}(hd:cO d<=n)(hd':cO d'<=n)(hu:A.units + n < bo)(r:Rep X.K H d v)(r':Rep X.K H d' v')(e:RelV v u)(e':RelV v' u'):RcAt A s u u' (vQ d d'):=by
 have hu0:A.units < bo:=by lia
 cases d with
 |non =>
  rw[bR.mp r]at e;cases e;cases d' with
  |non =>
   rw[bR.mp r']at e';cases e';exact RcAt.none_none
  |bl b =>
   rw[bK.mp r']at e';cases e';exact RcAt.none_bool b
  |int b =>
   rw[aM.mp r']at e';obtain⟨t',rfl⟩:=e';exact RcAt.none_int b t'
  |str b =>
   rw[bU.mp r']at e';obtain⟨t',rfl⟩:=e';exact RcAt.none_str b t'
  |tup es =>
   obtain⟨b,us,rfl,q',rr'⟩:=bw.mp r';cases e';obtain⟨its2,jq,t2,_⟩:=I.tuple q';exact RcAt.none_tuple t2 hu0
  |lst es =>
   obtain⟨b,us,rfl,q',rr'⟩:=aW.mp r';cases e';obtain⟨its2,jq,t3,_⟩:=I.list q';have t2:=t3.isList;exact RcAt.none_list t2 hu0
  |mZ c m =>
   simp only[cO]at hd';exact absurd hu (by lia)
  |je c m =>
   simp only[cO]at hd';exact absurd hu (by lia)
 |bl x =>
  rw[bK.mp r]at e;cases e;cases d' with
  |non =>
   rw[bR.mp r']at e';cases e';exact RcAt.bool_none x
  |bl b =>
   rw[bK.mp r']at e';cases e';exact RcAt.bool_bool x b
  |int b =>
   rw[aM.mp r']at e';obtain⟨t',rfl⟩:=e';exact RcAt.bool_int x b t'
  |str b =>
   rw[bU.mp r']at e';obtain⟨t',rfl⟩:=e';exact RcAt.bool_str x b t'
  |tup es =>
   obtain⟨b,us,rfl,q',rr'⟩:=bw.mp r';cases e';obtain⟨its2,jq,t2,_⟩:=I.tuple q';exact RcAt.bool_tuple x t2 hu0
  |lst es =>
   obtain⟨b,us,rfl,q',rr'⟩:=aW.mp r';cases e';obtain⟨its2,jq,t3,_⟩:=I.list q';have t2:=t3.isList;exact RcAt.bool_list x t2 hu0
  |mZ c m =>
   simp only[cO]at hd';exact absurd hu (by lia)
  |je c m =>
   simp only[cO]at hd';exact absurd hu (by lia)
 |int x =>
  rw[aM.mp r]at e;obtain⟨t0,rfl⟩:=e;cases d' with
  |non =>
   rw[bR.mp r']at e';cases e';exact RcAt.int_none x t0
  |bl b =>
   rw[bK.mp r']at e';cases e';exact RcAt.int_bool x t0 b
  |int b =>
   rw[aM.mp r']at e';obtain⟨t',rfl⟩:=e';exact RcAt.int_int x t0 b t'
  |str b =>
   rw[bU.mp r']at e';obtain⟨t',rfl⟩:=e';exact RcAt.int_str x t0 b t'
  |tup es =>
   obtain⟨b,us,rfl,q',rr'⟩:=bw.mp r';cases e';obtain⟨its2,jq,t2,_⟩:=I.tuple q';exact RcAt.int_tuple x t0 t2 hu0
  |lst es =>
   obtain⟨b,us,rfl,q',rr'⟩:=aW.mp r';cases e';obtain⟨its2,jq,t3,_⟩:=I.list q';have t2:=t3.isList;exact RcAt.int_list x t0 t2 hu0
  |mZ c m =>
   simp only[cO]at hd';exact absurd hu (by lia)
  |je c m =>
   simp only[cO]at hd';exact absurd hu (by lia)
 |str x =>
  rw[bU.mp r]at e;obtain⟨t0,rfl⟩:=e;cases d' with
  |non =>
   rw[bR.mp r']at e';cases e';exact RcAt.str_none x t0
  |bl b =>
   rw[bK.mp r']at e';cases e';exact RcAt.str_bool x t0 b
  |int b =>
   rw[aM.mp r']at e';obtain⟨t',rfl⟩:=e';exact RcAt.str_int x t0 b t'
  |str b =>
   rw[bU.mp r']at e';obtain⟨t',rfl⟩:=e';exact RcAt.str_str x t0 b t'
  |tup es =>
   obtain⟨b,us,rfl,q',rr'⟩:=bw.mp r';cases e';obtain⟨its2,jq,t2,_⟩:=I.tuple q';exact RcAt.str_tuple x t0 t2 hu0
  |lst es =>
   obtain⟨b,us,rfl,q',rr'⟩:=aW.mp r';cases e';obtain⟨its2,jq,t3,_⟩:=I.list q';have t2:=t3.isList;exact RcAt.str_list x t0 t2 hu0
  |mZ c m =>
   simp only[cO]at hd';exact absurd hu (by lia)
  |je c m =>
   simp only[cO]at hd';exact absurd hu (by lia)
 |tup ds =>
  obtain⟨a,vs,rfl,q,rr⟩:=bw.mp r;cases e;obtain⟨its,av,t,_⟩:=I.tuple q;cases d' with
  |non =>
   rw[bR.mp r']at e';cases e';exact RcAt.tuple_none t hu0
  |bl b =>
   rw[bK.mp r']at e';cases e';exact RcAt.tuple_bool b t hu0
  |int b =>
   rw[aM.mp r']at e';obtain⟨t',rfl⟩:=e';exact RcAt.tuple_int b t' t hu0
  |str b =>
   rw[bU.mp r']at e';obtain⟨t',rfl⟩:=e';exact RcAt.tuple_str b t' t hu0
  |tup es =>
   obtain⟨b,us,rfl,q',rr'⟩:=bw.mp r';cases e';obtain⟨its2,jq,t2,_⟩:=I.tuple q';obtain⟨m,rfl⟩:∃m,n=m + 1:=⟨n - 1,by simp only[cO]at hd;lia⟩
   have hn:jF ds<=m:=by simp only[cO]at hd;lia
   have hn':jF es<=m:=by simp only[cO]at hd';lia
   have items:=vY I hn hn' (show A.in1.units + m < bo by show A.units + 1 + m < _;lia) rr rr' av jq;have h:=RcAt.tuples (A:=A) t t2 hu0 items;rw[cw,cw,<- av.length,<- jq.length,<- rr.length,<- rr'.length,dZ]at h;exact h
  |lst es =>
   obtain⟨b,us,rfl,q',rr'⟩:=aW.mp r';cases e';obtain⟨its2,jq,t3,_⟩:=I.list q';have t2:=t3.isList;exact RcAt.tuple_list t t2 hu0
  |mZ c m =>
   simp only[cO]at hd';exact absurd hu (by lia)
  |je c m =>
   simp only[cO]at hd';exact absurd hu (by lia)
 |lst ds =>
  obtain⟨a,vs,rfl,q,rr⟩:=aW.mp r;cases e;obtain⟨its,av,t1,_⟩:=I.list q;have t:=t1.isList;cases d' with
  |non =>
   rw[bR.mp r']at e';cases e';exact RcAt.list_none t hu0
  |bl b =>
   rw[bK.mp r']at e';cases e';exact RcAt.list_bool b t hu0
  |int b =>
   rw[aM.mp r']at e';obtain⟨t',rfl⟩:=e';exact RcAt.list_int b t' t hu0
  |str b =>
   rw[bU.mp r']at e';obtain⟨t',rfl⟩:=e';exact RcAt.list_str b t' t hu0
  |tup es =>
   obtain⟨b,us,rfl,q',rr'⟩:=bw.mp r';cases e';obtain⟨its2,jq,t2,_⟩:=I.tuple q';exact RcAt.list_tuple t t2 hu0
  |lst es =>
   obtain⟨b,us,rfl,q',rr'⟩:=aW.mp r';cases e';obtain⟨its2,jq,t3,_⟩:=I.list q';have t2:=t3.isList;obtain⟨m,rfl⟩:∃m,n=m + 1:=⟨n - 1,by simp only[cO]at hd;lia⟩
   have hn:jF ds<=m:=by simp only[cO]at hd;lia
   have hn':jF es<=m:=by simp only[cO]at hd';lia
   have items:=vY I hn hn' (show A.in1.units + m < bo by show A.units + 1 + m < _;lia) rr rr' av jq;by_cases hl:its.toArray.size=its2.toArray.size
   ·have h:=RcAt.lists (A:=A) t t2 hl hu0 items;rw[cw,<- av.length,<- rr.length]at h;have hl':ds.length=es.length:=by rw[rr.length,rr'.length,av.length,jq.length];simpa using hl
    have e1:=dZ ds es;rw[hl',sD]at e1;simp only[beq_self_eq_true,o6]at e1;rw[hl',e1]at h;exact h
   ·have h:=RcAt.lists_lengths (A:=A) t t2 (by simpa using hl) hu0;have hl':ds.length≠es.length:=by rw[rr.length,rr'.length,av.length,jq.length];simpa using hl
    have e1:=dZ ds es;rw[show(ds.length == es.length)=false by simpa using hl',nz]at e1;rw[show vQ (.lst ds) (.lst es)=false by rw[vQ,<- e1]];exact h
  |mZ c m =>
   simp only[cO]at hd';exact absurd hu (by lia)
  |je c m =>
   simp only[cO]at hd';exact absurd hu (by lia)
 |mZ c m =>
  simp only[cO]at hd;exact absurd hu (by lia)
 |je c m =>
  simp only[cO]at hd;exact absurd hu (by lia)
open SeqAt in
theorem abT(I:Inv X pins σ H s){n:Nat}{d d':D}{v v':V}{u u':aa}{A:a8}(hd:cO d<=n)(hd':cO d'<=n)(hu:A.units + n < bo)(r:Rep X.K H d v)(r':Rep X.K H d' v')(e:RelV v u)(e':RelV v' u'):RcNeAt A s u u' (!vQ d d'):=by
 have hu0:A.units < bo:=by lia
 cases d with
 |non =>
  rw[bR.mp r]at e;cases e;cases d' with
  |non =>
   rw[bR.mp r']at e';cases e';exact RcNeAt.none_none
  |bl b =>
   rw[bK.mp r']at e';cases e';exact RcNeAt.none_bool b
  |int b =>
   rw[aM.mp r']at e';obtain⟨t',rfl⟩:=e';exact RcNeAt.none_int b t'
  |str b =>
   rw[bU.mp r']at e';obtain⟨t',rfl⟩:=e';exact RcNeAt.none_str b t'
  |tup es =>
   obtain⟨b,us,rfl,q',rr'⟩:=bw.mp r';cases e';obtain⟨its2,jq,t2,_⟩:=I.tuple q';exact RcNeAt.none_tuple t2 hu0
  |lst es =>
   obtain⟨b,us,rfl,q',rr'⟩:=aW.mp r';cases e';obtain⟨its2,jq,t3,_⟩:=I.list q';have t2:=t3.isList;exact RcNeAt.none_list t2 hu0
  |mZ c m =>
   simp only[cO]at hd';exact absurd hu (by lia)
  |je c m =>
   simp only[cO]at hd';exact absurd hu (by lia)
 |bl x =>
  rw[bK.mp r]at e;cases e;cases d' with
  |non =>
   rw[bR.mp r']at e';cases e';exact RcNeAt.bool_none x
  |bl b =>
   rw[bK.mp r']at e';cases e';exact RcNeAt.bool_bool x b
  |int b =>
   rw[aM.mp r']at e';obtain⟨t',rfl⟩:=e';exact RcNeAt.bool_int x b t'
  |str b =>
   rw[bU.mp r']at e';obtain⟨t',rfl⟩:=e';exact RcNeAt.bool_str x b t'
  |tup es =>
   obtain⟨b,us,rfl,q',rr'⟩:=bw.mp r';cases e';obtain⟨its2,jq,t2,_⟩:=I.tuple q';exact RcNeAt.bool_tuple x t2 hu0
  |lst es =>
   obtain⟨b,us,rfl,q',rr'⟩:=aW.mp r';cases e';obtain⟨its2,jq,t3,_⟩:=I.list q';have t2:=t3.isList;exact RcNeAt.bool_list x t2 hu0
  |mZ c m =>
   simp only[cO]at hd';exact absurd hu (by lia)
  |je c m =>
   simp only[cO]at hd';exact absurd hu (by lia)
 |int x =>
  rw[aM.mp r]at e;obtain⟨t0,rfl⟩:=e;cases d' with
  |non =>
   rw[bR.mp r']at e';cases e';exact RcNeAt.int_none x t0
  |bl b =>
   rw[bK.mp r']at e';cases e';exact RcNeAt.int_bool x t0 b
  |int b =>
   rw[aM.mp r']at e';obtain⟨t',rfl⟩:=e';exact RcNeAt.int_int x t0 b t'
  |str b =>
   rw[bU.mp r']at e';obtain⟨t',rfl⟩:=e';exact RcNeAt.int_str x t0 b t'
  |tup es =>
   obtain⟨b,us,rfl,q',rr'⟩:=bw.mp r';cases e';obtain⟨its2,jq,t2,_⟩:=I.tuple q';exact RcNeAt.int_tuple x t0 t2 hu0
  |lst es =>
   obtain⟨b,us,rfl,q',rr'⟩:=aW.mp r';cases e';obtain⟨its2,jq,t3,_⟩:=I.list q';have t2:=t3.isList;exact RcNeAt.int_list x t0 t2 hu0
  |mZ c m =>
   simp only[cO]at hd';exact absurd hu (by lia)
  |je c m =>
   simp only[cO]at hd';exact absurd hu (by lia)
 |str x =>
  rw[bU.mp r]at e;obtain⟨t0,rfl⟩:=e;cases d' with
  |non =>
   rw[bR.mp r']at e';cases e';exact RcNeAt.str_none x t0
  |bl b =>
   rw[bK.mp r']at e';cases e';exact RcNeAt.str_bool x t0 b
  |int b =>
   rw[aM.mp r']at e';obtain⟨t',rfl⟩:=e';exact RcNeAt.str_int x t0 b t'
  |str b =>
   rw[bU.mp r']at e';obtain⟨t',rfl⟩:=e';exact RcNeAt.str_str x t0 b t'
  |tup es =>
   obtain⟨b,us,rfl,q',rr'⟩:=bw.mp r';cases e';obtain⟨its2,jq,t2,_⟩:=I.tuple q';exact RcNeAt.str_tuple x t0 t2 hu0
  |lst es =>
   obtain⟨b,us,rfl,q',rr'⟩:=aW.mp r';cases e';obtain⟨its2,jq,t3,_⟩:=I.list q';have t2:=t3.isList;exact RcNeAt.str_list x t0 t2 hu0
  |mZ c m =>
   simp only[cO]at hd';exact absurd hu (by lia)
  |je c m =>
   simp only[cO]at hd';exact absurd hu (by lia)
 |tup ds =>
  obtain⟨a,vs,rfl,q,rr⟩:=bw.mp r;cases e;obtain⟨its,av,t,_⟩:=I.tuple q;cases d' with
  |non =>
   rw[bR.mp r']at e';cases e';exact RcNeAt.tuple_none t hu0
  |bl b =>
   rw[bK.mp r']at e';cases e';exact RcNeAt.tuple_bool b t hu0
  |int b =>
   rw[aM.mp r']at e';obtain⟨t',rfl⟩:=e';exact RcNeAt.tuple_int b t' t hu0
  |str b =>
   rw[bU.mp r']at e';obtain⟨t',rfl⟩:=e';exact RcNeAt.tuple_str b t' t hu0
  |tup es =>
   obtain⟨b,us,rfl,q',rr'⟩:=bw.mp r';cases e';obtain⟨its2,jq,t2,_⟩:=I.tuple q';obtain⟨m,rfl⟩:∃m,n=m + 1:=⟨n - 1,by simp only[cO]at hd;lia⟩
   have hn:jF ds<=m:=by simp only[cO]at hd;lia
   have hn':jF es<=m:=by simp only[cO]at hd';lia
   have items:=vY I hn hn' (show A.in1.units + m < bo by show A.units + 1 + m < _;lia) rr rr' av jq;have h:=RcNeAt.tuples (A:=A) t t2 hu0 items;rw[cw,cw,<- av.length,<- jq.length,<- rr.length,<- rr'.length,dZ]at h;exact h
  |lst es =>
   obtain⟨b,us,rfl,q',rr'⟩:=aW.mp r';cases e';obtain⟨its2,jq,t3,_⟩:=I.list q';have t2:=t3.isList;exact RcNeAt.tuple_list t t2 hu0
  |mZ c m =>
   simp only[cO]at hd';exact absurd hu (by lia)
  |je c m =>
   simp only[cO]at hd';exact absurd hu (by lia)
 |lst ds =>
  obtain⟨a,vs,rfl,q,rr⟩:=aW.mp r;cases e;obtain⟨its,av,t1,_⟩:=I.list q;have t:=t1.isList;cases d' with
  |non =>
   rw[bR.mp r']at e';cases e';exact RcNeAt.list_none t hu0
  |bl b =>
   rw[bK.mp r']at e';cases e';exact RcNeAt.list_bool b t hu0
  |int b =>
   rw[aM.mp r']at e';obtain⟨t',rfl⟩:=e';exact RcNeAt.list_int b t' t hu0
  |str b =>
   rw[bU.mp r']at e';obtain⟨t',rfl⟩:=e';exact RcNeAt.list_str b t' t hu0
  |tup es =>
   obtain⟨b,us,rfl,q',rr'⟩:=bw.mp r';cases e';obtain⟨its2,jq,t2,_⟩:=I.tuple q';exact RcNeAt.list_tuple t t2 hu0
  |lst es =>
   obtain⟨b,us,rfl,q',rr'⟩:=aW.mp r';cases e';obtain⟨its2,jq,t3,_⟩:=I.list q';have t2:=t3.isList;obtain⟨m,rfl⟩:∃m,n=m + 1:=⟨n - 1,by simp only[cO]at hd;lia⟩
   have hn:jF ds<=m:=by simp only[cO]at hd;lia
   have hn':jF es<=m:=by simp only[cO]at hd';lia
   have items:=vY I hn hn' (show A.in1.units + m < bo by show A.units + 1 + m < _;lia) rr rr' av jq;by_cases hl:its.toArray.size=its2.toArray.size
   ·have h:=RcNeAt.lists (A:=A) t t2 hl hu0 items;rw[cw,<- av.length,<- rr.length]at h;have hl':ds.length=es.length:=by rw[rr.length,rr'.length,av.length,jq.length];simpa using hl
    have e1:=dZ ds es;rw[hl',sD]at e1;simp only[beq_self_eq_true,o6]at e1;rw[hl',e1]at h;exact h
   ·have h:=RcNeAt.lists_lengths (A:=A) t t2 (by simpa using hl) hu0;have hl':ds.length≠es.length:=by rw[rr.length,rr'.length,av.length,jq.length];simpa using hl
    have e1:=dZ ds es;rw[show(ds.length == es.length)=false by simpa using hl',nz]at e1;rw[show vQ (.lst ds) (.lst es)=false by rw[vQ,<- e1]];exact h
  |mZ c m =>
   simp only[cO]at hd';exact absurd hu (by lia)
  |je c m =>
   simp only[cO]at hd';exact absurd hu (by lia)
 |mZ c m =>
  simp only[cO]at hd;exact absurd hu (by lia)
 |je c m =>
  simp only[cO]at hd;exact absurd hu (by lia)
end
def Dl(W:Wi)(σ:St)(G H:Hp)(r:Rs Bool)(Q:Bool->Hp->Prop):Prop :=
 match r with
 | .ok b=>∀H' G',Ext G H G' H'->Q b H'
 | .ex c n=>∀H' G',Ext G H G' H'->W c n σ H'
 | .no=>False
def tT(K:ah)(B:Bs)(W:Wi)(f:au->Rs Bool):TT:=fun σ H Q=>∃ρ G,SR K B σ H ρ G/\Dl W σ G H (f ρ) Q
def ST(X:Cx)(B:Bs)(W:Wi)(e:ag)(f:au->Rs Bool):Prop:=PT X e (tT X.K B W f)
def SW(X:Cx)(B:Bs)(W:Wi)(e:ag)(f:au->Rs Bool):Prop:=PW X e (tT X.K B W f)
def ahC(K:ah)(W:Wi)(σ:St)(G H:Hp)(r:Rs (List D))(Q:List V->Hp->Prop):Prop :=
 match r with
 | .ok ds=>∀vs H' G',Ext G H G' H'->bL K G' ds vs->Q vs H'
 | .ex c n=>∀H' G',Ext G H G' H'->W c n σ H'
 | .no=>False
def tAF(K:ah)(B:Bs)(W:Wi)(f:au->Rs (List D)):TA:=fun σ H Q=>∃ρ G,SR K B σ H ρ G/\ahC K W σ G H (f ρ) Q
def SA(X:Cx)(B:Bs)(W:Wi)(es:List ag)(f:au->Rs (List D)):Prop:=PA X es (tAF X.K B W f)
theorem PW.imp{X:Cx}{e:ag}{t t':TT}(h:PW X e t)(i:∀σ H Q,t' σ H Q->t σ H Q):PW X e t':=fun wh pins s σ H Q I q=>h wh pins s σ H Q I (i σ H Q q)
def toB:D->Rs Bool
 | .bl b=>.ok b
 |_=>.no
def fT(f:au->Rs D):au->Rs Bool:=fun ρ=>(f ρ).bind toB
def aoj(a b:au->Rs Bool):au->Rs Bool:=fun ρ=>(a ρ).bind fun x=>if x=true then b ρ else .ok false
def fOr(a b:au->Rs Bool):au->Rs Bool:=fun ρ=>(a ρ).bind fun x=>if x=true then .ok true else b ρ
def rO(a:au->Rs Bool):au->Rs Bool:=fun ρ=>(a ρ).bind fun x=>.ok (!x)
def ao(a:au->Rs D)(r:au->Rs (List D)):au->Rs (List D):=fun ρ=>(a ρ).bind fun x=>(r ρ).bind fun xs=>.ok (x::xs)
def aR:au->Rs (List D):=fun _=>.ok []
def fA(a:au->Rs (List D))(g:List D->Rs D):au->Rs D:=fun ρ=>(a ρ).bind g
section
variable{X:Cx}{K:ah}{B:Bs}{W:Wi}{σ:St}{G H:Hp}{ρ:au}
theorem Dl.ext{r:Rs Bool}{Q:Bool->Hp->Prop}{G' H':Hp}(e:Ext G H G' H')(h:Dl W σ G H r Q):Dl W σ G' H' r Q:=by
 cases r with
 |ok d=>exact fun Qz G'' e'=>h Qz G'' (e.trans e')
 |ex c n=>exact fun Qz G'' e'=>h Qz G'' (e.trans e')
 |no=>exact h
theorem abV{f:au->Rs D}{Q:Bool->Hp->Prop}(h:tT K B W (fT f) σ H Q):tF K B W f σ H fun x H1=>∃c,x=.bl c/\Q c H1:=by
 obtain⟨ρ,G,s,p⟩:=h;refine⟨ρ,G,s,?_⟩;unfold fT at p;cases e:f ρ with
 |ok d =>
  rw[e]at p;cases d with
  |bl b=>exact fun v H' G' e r=>⟨b,bK.mp r,p H' G' e⟩
  |_=>exact p.elim
 |ex c n=>rw[e]at p;exact p
 |no=>rw[e]at p;exact p
theorem lW{e:ag}{f:au->Rs D}(h:SE X B W e f)(he:∀whole,isTrue e X.env whole=(do let v <- whole;kd e.pos;du [v] (truthy v)):=by intro _;rfl):ST X B W e (fT f) :=
 PT.imp (ain h he) fun _ _ _ h=>abV h
theorem KR{a b:ag}{op:i3}{pos:Pos}{r:R2}{g:D->D->Rs D}{fa fb:au->Rs D}(ho:uL X (eR op) r)(hg:QB X.K r g)(ha:SE X B W a fa)(hb:SE X B W b fb)(hm:ij op b=false) :
  ST X B W (.Compare a [op] [b] pos) (fT (bZ g fa fb)):=by
 refine PT.imp (KC ho ha hb hm) fun σ H Q h=>?_;exact Dg hg (abV h)
theorem VN{a b:ag}{op:i3}{pos:Pos}{r:R2}{g:D->D->Rs D}{fa fb:au->Rs D}(ho:uL X (eR op) r)(hg:QB X.K r g)(ha:SE X B W a fa)(hb:SE X B W b fb)(hm:ij op b=false) :
  SE X B W (.Compare a [op] [b] pos) (bZ g fa fb):=PE.imp (Yu ho ha hb hm) fun _ _ _ h=>Dg hg h
theorem KY{a:ag}{pos:Pos}{fa:au->Rs Bool}(ha:ST X B W a fa):SW X B W (.BoolOp .Or [a] pos) fa:=aio ha
theorem Jo{a b:ag}{rest:List ag}{pos:Pos}{fa fb:au->Rs Bool}(ha:ST X B W a fa)(hb:SW X B W (.BoolOp .Or (b::rest) pos) fb):SW X B W (.BoolOp .Or (a::b::rest) pos) (fOr fa fb):=by
 refine PW.imp (akY ha hb) fun σ H Q ⟨ρ,G,s,p⟩=>⟨ρ,G,s,?_⟩
 unfold fOr at p;cases e:fa ρ with
 |ok x =>
  rw[e]at p;intro H' G' ee;cases x with
  |true=>rw[if_pos rfl];exact(show Dl W σ G H (.ok true) Q from p) H' G' ee
  |false=>rw[if_neg (by simp)];exact⟨ρ,G',s.ext ee,Dl.ext ee (show Dl W σ G H (fb ρ) Q from p)⟩
 |ex c n=>rw[e]at p;exact p
 |no=>rw[e]at p;exact p
theorem afw{e:ag}{f:au->Rs Bool}(h:SW X B W e f):ST X B W e f:=PW.pt h
theorem rP{a:ag}{pos:Pos}{fa:au->Rs Bool}(ha:ST X B W a fa):ST X B W (.UnaryOp .Not a pos) (rO fa):=by
 refine PT.imp (aiq ha) fun σ H Q ⟨ρ,G,s,p⟩=>⟨ρ,G,s,?_⟩
 unfold rO at p;cases e:fa ρ with
 |ok x=>rw[e]at p;exact p
 |ex c n=>rw[e]at p;exact p
 |no=>rw[e]at p;exact p
def Jp(a b:au->Rs D):au->Rs D:=fun ρ=>(a ρ).bind fun x=>(toB x).bind fun c=>if c=true then b ρ else .ok (.bl false)
def aok(a b:au->Rs D):au->Rs D:=fun ρ=>(a ρ).bind fun x=>(toB x).bind fun c=>if c=true then .ok (.bl true) else b ρ
def abW(a:au->Rs D):au->Rs D:=fun ρ=>(a ρ).bind fun x=>(toB x).bind fun c=>.ok (.bl !c)
theorem abX{op}{a:ag}{pos:Pos}{fa:au->Rs D}(ha:SE X B W a fa):SE X B W (.BoolOp op [a] pos) fa:=air ha
theorem abY{a b:ag}{rest:List ag}{pos:Pos}{fa fb:au->Rs D}(ha:SE X B W a fa)(hb:SE X B W (.BoolOp .And (b::rest) pos) fb):SE X B W (.BoolOp .And (a::b::rest) pos) (Jp fa fb):=by
 refine PE.imp (ais ha hb) fun σ H Q h=>?_;obtain⟨ρ,G,s,p⟩:=vW (k:=fun ρ x=>(toB x).bind fun c=>if c=true then fb ρ else .ok (.bl false)) h;refine⟨ρ,G,s,p.mono fun v H1 ⟨ρ1,G1,d,s1,r,q⟩=>?_⟩;cases d with
 |bl c =>
  refine⟨c,bK.mp r,?_⟩;cases c with
  |true=>rw[if_pos rfl];exact⟨ρ1,G1,s1,q⟩
  |false=>rw[if_neg (by simp)];exact Post.ok s1 q (bK.mpr rfl)
 |_=>exact q.elim
theorem aiO{a:ag}{pos:Pos}{fa:au->Rs D}(ha:SE X B W a fa):SE X B W (.UnaryOp .Not a pos) (abW fa):=by
 refine PE.imp (ait ha) fun σ H Q h=>?_;obtain⟨ρ,G,s,p⟩:=vW (k:=fun ρ x=>(toB x).bind fun c=>.ok (.bl !c)) h;refine⟨ρ,G,s,p.mono fun v H1 ⟨ρ1,G1,d,s1,r,q⟩=>?_⟩;cases d with
 |bl c=>exact⟨c,bK.mp r,Post.ok s1 q (bK.mpr rfl)⟩
 |_=>exact q.elim
theorem aK:SA X B W [] aR:=PA.imp gP fun σ H Q ⟨ρ,G,s,p⟩=>p [] H G s.yt (bG.mpr rfl)
theorem ak{e:ag}{es:List ag}{fe:au->Rs D}{fs:au->Rs (List D)}(ha:SE X B W e fe)(hr:SA X B W es fs)(hs:a9 (e::es) X.env=(false,aS e X.env)::a9 es X.env:=by rfl):SA X B W (e::es) (ao fe fs):=by
 refine PA.imp (dg ha hr hs) fun σ H Q ⟨ρ,G,s,p⟩=>⟨ρ,G,s,?_⟩
 unfold ao at p;cases e1:fe ρ with
 |ok d =>
  rw[e1]at p;intro v H1 G1 x1 r1;refine⟨ρ,G1,s.ext x1,?_⟩;have p':ahC X.K W σ G H ((fs ρ).bind fun xs=>.ok (d::xs)) Q:=p;cases e2:fs ρ with
  |ok ds =>
   rw[e2]at p';intro vs H2 G2 x2 r2;exact p' (v::vs) H2 G2 (x1.trans x2) (aQ.mpr ⟨v,vs,rfl,r1.mono x2.gg,r2⟩)
  |ex c n=>rw[e2]at p';exact fun H2 G2 x2=>p' H2 G2 (x1.trans x2)
  |no=>rw[e2]at p';exact p'
 |ex c n=>rw[e1]at p;exact p
 |no=>rw[e1]at p;exact p
def rQ(K:ah)(r:List V->Hp->VK->Prop)(g:List D->Rs D):Prop :=
 ∀(B:Bs) (W:Wi) (σ:St) (ρ:au) (G H:Hp) (ds:List D) (vs:List V) (Q:VK),SR K B σ H ρ G->bL K G ds vs->Post K W σ G H (g ds) Q->r vs H Q
theorem YG{t:au->Rs (List D)}{g:List D->Rs D}{r:List V->Hp->VK->Prop}{Q:VK}(hg:rQ K r g)(h:tF K B W (fA t g) σ H Q):tAF K B W t σ H fun vs H1=>r vs H1 Q:=by
 obtain⟨ρ,G,s,p⟩:=h;refine⟨ρ,G,s,?_⟩;unfold fA at p;cases e:t ρ with
 |ok ds=>rw[e]at p;exact fun vs H1 G1 x r=>hg B W σ ρ G1 H1 ds vs Q (s.ext x) r (Post.ext x p)
 |ex c n=>rw[e]at p;exact p
 |no=>rw[e]at p;exact p
def dH:List D->Rs D:=fun ds=>if ds.length<=1000 then .ok (.tup ds) else .no
def vZ:List D->Rs D:=fun ds=>if ds.length<=1000 then .ok (.lst ds) else .no
theorem Dm{n:Nat}(h:n<=1000):n<=sizeLine:=fv (aaq h)
theorem eN{es:List ag}{x1}{pos:Pos}{f:au->Rs (List D)}(h:SA X B W es f):SE X B W (.Tuple es x1 pos) (fA f dH):=by
 refine PE.imp (abL h) fun σ H Q q=>YG (r:=fun xs H1 Q=>xs.length<=sizeLine/\∀p,H1 p=none->Q (.ref p) (upd H1 p (.tup xs))) ?_ q;intro B W σ ρ G H ds vs Q s r p;unfold dH at p;by_cases hl:ds.length<=1000
 ·rw[if_pos hl]at p;refine⟨by rw[<- r.length];exact Dm hl,fun a ha=>?_⟩;have x:=Cp (xs:=vs) s.en.gh s.en.tp ha;exact p _ _ _ x (bw.mpr ⟨a,vs,rfl,.of bA,r.mono x.gg⟩)
 ·rw[if_neg hl]at p;exact p.elim
theorem uZ{es:List ag}{pos:Pos}{f:au->Rs (List D)}(h:SA X B W es f):SE X B W (.List es pos) (fA f vZ):=by
 refine PE.imp (VG h) fun σ H Q q=>YG (r:=fun xs H1 Q=>xs.length<=sizeLine/\∀p,H1 p=none->Q (.ref p) (upd H1 p (.lst xs))) ?_ q;intro B W σ ρ G H ds vs Q s r p;unfold vZ at p;by_cases hl:ds.length<=1000
 ·rw[if_pos hl]at p;refine⟨by rw[<- r.length];exact Dm hl,fun a ha=>?_⟩;have x:=nJ (xs:=vs) s.en.gh s.en.tp ha;exact p _ _ _ x (aW.mpr ⟨a,vs,rfl,.of bA,r.mono x.gg⟩)
 ·rw[if_neg hl]at p;exact p.elim
def fY:D->D->Rs D
 | .tup ds,.int i=>match Cm ds i with|some d=>.ok d|none=>.no
 | .lst ds,.int i=>match Cm ds i with|some d=>.ok d|none=>.no
 |_,_=>.no
theorem Dp{ds:List D}{vs:List V}{i:Int}{d:D}(r:bL K G ds vs)(h:Cm ds i=some d):∃v,Cm vs i=some v/\Rep K G d v:=by
 unfold Cm at h ⊢;rw[<- r.length];cases e:Jj ds.length i with
 |none=>rw[e]at h;cases h
 |some j=>rw[e]at h;exact r.get (i:=j) h
theorem abZ:QB K (rIx K) fY:=by
 intro B W σ ρ G H x y v u Q s rx ry p;cases y <;> first|(cases x <;> exact p.elim)|skip
 rename_i i;cases x with
 |tup ds =>
  simp only[fY]at p;obtain⟨a,vs,rfl,q,rr⟩:=bw.mp rx;cases e:Cm ds i with
  |none=>rw[e]at p;exact p.elim
  |some d =>
   rw[e]at p;obtain⟨w,e2,rw'⟩:=Dp rr e;exact .inr (.inl ⟨a,vs,i,w,rfl,aM.mp ry,Same.gK s.en.gh q,e2,Post.ok s p rw'⟩)
 |lst ds =>
  simp only[fY]at p;obtain⟨a,vs,rfl,q,rr⟩:=aW.mp rx;cases e:Cm ds i with
  |none=>rw[e]at p;exact p.elim
  |some d =>
   rw[e]at p;obtain⟨w,e2,rw'⟩:=Dp rr e;exact .inl ⟨a,vs,i,w,rfl,aM.mp ry,s.en.gh.seq q,e2,Post.ok s p rw'⟩
 |_=>exact p.elim
theorem cH{a b:ag}{pos:Pos}{fa fb:au->Rs D}(ha:SE X B W a fa)(hb:SE X B W b fb)(hs:vU b:=by intro _ _;rfl):SE X B W (.Subscript a b pos) (bZ fY fa fb) :=
 PE.imp (Yy VJ ha hb hs) fun _ _ _ h=>Dg abZ h
instance (i j:Int):Decidable (VF i j):=by unfold VF;exact inferInstance
instance (i j:Int):Decidable (abH i j):=by unfold abH;exact inferInstance
def CDB(i j:Int):Prop:=0 < j/\j < 2 ^ 200
instance (i j:Int):Decidable (CDB i j):=by unfold CDB;exact inferInstance
theorem CDB.py{i j:Int}(h:CDB i j):cq.divisionGoesByPylong i j=false:=by
 refine PyProof.noPylong_of_log2 ?_;have h1:j.natAbs < 2 ^ 200:=by have:=h.1;have:=h.2;lia
 have h2:j.natAbs.log2 < 200:=(Nat.log2_lt (by have:=h.1;lia)).mpr h1;lia
theorem acd:uL X (gL .FloorDiv) (rI CDB fun i j=>.int (i / j)):=opI fun i j _ _ _ _ _ hc q=>by have h1:=hc.1;rw[<- Int.fdiv_eq_ediv_of_nonneg i (by lia)]at q;exact PyProof.Rows.floordiv_int (by lia) q (.inl hc.py)
def lH:=gI0 fun i j=>D.int (i - j)
def jG:=gI VF fun i j=>D.int (i * j)
def ace:=gI CDB fun i j=>D.int (i / j)
instance (i j:Int):Decidable ((fun(_:Int) (j:Int)=>0 < j) i j):=inferInstanceAs (Decidable (0 < j))
def Az:=gI (fun _ j=>0 < j) fun i j=>D.int (i % j)
def QH:=gI abH fun i j=>D.int (i ^ j.toNat)
variable{a b:ag}{pos:Pos}{fa fb:au->Rs D}
theorem Dq(ha:SE X B W a fa)(hb:SE X B W b fb):SE X B W (.BinOp a .Sub b pos) (bZ lH fa fb):=Jm abI (Dh fun _ _ _=>aM.mpr rfl) ha hb
theorem lZ(ha:SE X B W a fa)(hb:SE X B W b fb):SE X B W (.BinOp a .Mult b pos) (bZ jG fa fb):=Jm abJ (QC fun _ _ _=>aM.mpr rfl) ha hb
theorem aiP(ha:SE X B W a fa)(hb:SE X B W b fb):SE X B W (.BinOp a .FloorDiv b pos) (bZ ace fa fb):=Jm acd (QC fun _ _ _=>aM.mpr rfl) ha hb
theorem Dr(ha:SE X B W a fa)(hb:SE X B W b fb):SE X B W (.BinOp a .Mod b pos) (bZ Az fa fb):=Jm aiA (QC fun _ _ _=>aM.mpr rfl) ha hb
theorem acf(ha:SE X B W a fa)(hb:SE X B W b fb):SE X B W (.BinOp a .Pow b pos) (bZ QH fa fb):=Jm aiB (QC fun _ _ _=>aM.mpr rfl) ha hb
def afx:D->Rs D
 | .int i=>.ok (.int (-i))
 |_=>.no
theorem aiQ(ha:SE X B W a fa):SE X B W (.UnaryOp .USub a pos) (fun ρ=>(fa ρ).bind afx):=by
 refine PE.imp (alk aiC ha) fun σ H Q h=>?_;obtain⟨ρ,G,s,p⟩:=vW (k:=fun _=>afx) h;refine⟨ρ,G,s,p.mono fun v H1 ⟨ρ1,G1,d,s1,r,q⟩=>?_⟩;cases d with
 |int i=>exact⟨i,aM.mp r,Post.ok s1 q (aM.mpr rfl)⟩
 |_=>exact q.elim
def cT:D->D->Rs D
 | .int i,.int j=>.ok (.int (i + j))
 | .lst a,.lst b=>if a.length + b.length<=1000000 then .ok (.lst (a++b)) else .no
 |_,_=>.no
theorem sz6{n:Nat}(h:n<=1000000):n<=sizeLine:=cx h (by rw[dA];decide)
end
section
variable{X:Cx}{K:ah}{B:Bs}{W:Wi}{σ:St}{G H:Hp}{ρ:au}{a b:ag}{pos:Pos}{fa fb:au->Rs D}
def acg(K:ah):R2:=fun x y H Q=>∃l b xs zs,x=.ref l/\y=.ref b/\rG K H l xs/\rG K H b zs/\xs.length + zs.length<=sizeLine/\∀p,H p=none->Q (.ref p) (upd H p (.lst (xs++zs)))
open PyProof.Rows in
theorem afy:uL X (gL .Add) (acg X.K):=by
 intro pins s σ H x y v u Q I rx ry h;obtain⟨l,b,xs,zs,rfl,rfl,hH,hB,hz,q⟩:=h;cases rx;cases ry;obtain⟨vs,r,pl,_⟩:=I.list hH;obtain⟨ws,r2,pl2,_⟩:=I.list hB;obtain⟨⟨cls,dd,data,sl⟩,ho,hc,n,hd⟩:=pl.isList;obtain⟨⟨cls2,dd2,data2,sl2⟩,ho2,hc2,n2,hd2⟩:=pl2.isList;simp only at hc hd hc2 hd2;subst hc hd hc2 hd2;have e:vs.toArray++ws.toArray=(vs++ws).toArray:=by simp
 have l1:=r.length;have l2:=r2.length;refine concat_meets ⟨_,ho,rfl⟩ ⟨_,ho2,rfl⟩ noFill_list_add seq_list_add PySem.F.slot_list_add PySem.F.entry_list_add (PySem.F.args_list_add_2 _ _) (list_addW l b vs.toArray ws.toArray n n2 dd dd2 sl sl2 (by simp only[cw];lia)) ⟨ho,ho2,?_⟩;rw[e];exact⟨.ref _,_,I.alx (t':=s.toks) (r.append r2) (by rw[dC];lia),rfl,q _ I.fresh⟩
theorem YH:uL X (gL .Add) (fun x y H Q=>rI0 (fun i j=>V.int (i + j)) x y H Q∨acg X.K x y H Q):=aiz.or afy
theorem QJ:QB K (fun x y H Q=>rI0 (fun i j=>V.int (i + j)) x y H Q∨acg K x y H Q) cT:=by
 intro B W σ ρ G H x y v u Q s rx ry p;cases x with
 |int i =>
  cases y with
  |int j=>exact .inl ⟨i,j,aM.mp rx,aM.mp ry,Post.ok s p (aM.mpr rfl)⟩
  |_=>exact p.elim
 |lst ds =>
  cases y with
  |lst es =>
   simp only[cT]at p;by_cases hl:ds.length + es.length<=1000000
   ·rw[if_pos hl]at p;obtain⟨a,vs,rfl,q,r⟩:=aW.mp rx;obtain⟨b,us,rfl,q',r'⟩:=aW.mp ry;refine .inr ⟨a,b,vs,us,rfl,rfl,s.en.gh.seq q,s.en.gh.seq q',by rw[<- r.length,<- r'.length];exact sz6 hl,fun c hc=>?_⟩;have x:=nJ (xs:=vs++us) s.en.gh s.en.tp hc;exact p _ _ _ x (aW.mpr ⟨c,vs++us,rfl,.of bA,(r.append r').mono x.gg⟩)
   ·rw[if_neg hl]at p;exact p.elim
  |_=>exact p.elim
 |_=>cases y <;> exact p.elim
theorem gB(ha:SE X B W a fa)(hb:SE X B W b fb):SE X B W (.BinOp a .Add b pos) (bZ cT fa fb):=Jm YH QJ ha hb
def toI:D->Rs Int
 | .int i=>.ok i
 |_=>.no
def aom(xs:List D)(lo hi:Option Int):List D:=(xs.drop (HT.sIx xs.length 0 lo)).take (HT.sIx xs.length xs.length hi - HT.sIx xs.length 0 lo)
def gSl(lo hi:Option Int):D->Rs D
 | .lst ds=>.ok (.lst (aom ds lo hi))
 |_=>.no
def aon:au->Rs (Option Int):=fun _=>.ok none
def fP(f:au->Rs D):au->Rs (Option Int):=fun ρ=>(f ρ).bind fun d=>(toI d).bind fun i=>.ok (some i)
def fSl(fe:au->Rs D)(fl fh:au->Rs (Option Int)):au->Rs D:=fun ρ=>(fe ρ).bind fun x=>(fl ρ).bind fun l=>(fh ρ).bind fun h=>gSl l h x
variable{x:Str}{p:Pos}{e:ag}{es:List ag}{id T:String}{r:List V->Hp->VK->Prop}{g:List D->Rs D}{fs:au->Rs (List D)}
theorem wg(hc:iQ X (.builtin id) r) (hd:rQ X.K r g) (hg:Gl X x) (hm:X.mg x=none) (hv:ic x=some (.builtin id)) (ha:SA X B W (e::es) fs) (hn:x≠"__name__":=by decide) (hdb:(x == ("__debug__":Str))=false:=by decide)
  (he:a9 (e::es) X.env=(false,aS e X.env)::a9 es X.env:=by rfl) (hpl:(c6 pos (a9 es X.env)).any (·.1)=false:=by rfl):SE X B W (.Call (.Name x p) (e::es) [] pos) (fA fs g) :=
 PE.imp (nu hc hg hm hv ha hn hdb he hpl) fun _ _ _ h=>YG hd h
theorem Jq(hc:iQ X (.type T) r) (hd:rQ X.K r g) (hg:Gl X x) (hm:X.mg x=none) (hv:ic x=some (.type T)) (ha:SA X B W (e::es) fs) (hn:x≠"__name__":=by decide) (hdb:(x == ("__debug__":Str))=false:=by decide)
  (he:a9 (e::es) X.env=(false,aS e X.env)::a9 es X.env:=by rfl) (hpl:(c6 pos (a9 es X.env)).any (·.1)=false:=by rfl):SE X B W (.Call (.Name x p) (e::es) [] pos) (fA fs g) :=
 PE.imp (yr hc hg hm hv ha hn hdb he hpl) fun _ _ _ h=>YG hd h
def uI:List D->Rs D
 | [.lst ds]=>.ok (.int ds.length)
 | [.tup ds]=>.ok (.int ds.length)
 |_=>.no
theorem aiR:rQ K (fun xs H Q=>∃p ys,xs=[.ref p]/\(rG K H p ys∨pB K H p ys)/\Q (.int ys.length) H) uI:=by
 intro B W σ ρ G H ds vs Q s r p
 match ds,p with
 | [.lst ds],p =>
  obtain⟨v,vs',rfl,r1,r2⟩:=aQ.mp r;obtain⟨a,us,rfl,q,rr⟩:=aW.mp r1;rw[bG.mp r2];refine⟨a,us,rfl,.inl (s.en.gh.seq q),Post.ok s p ?_⟩;rw[<- rr.length];exact aM.mpr rfl
 | [.tup ds],p =>
  obtain⟨v,vs',rfl,r1,r2⟩:=aQ.mp r;obtain⟨a,us,rfl,q,rr⟩:=bw.mp r1;rw[bG.mp r2];refine⟨a,us,rfl,.inr (Same.gK s.en.gh q),Post.ok s p ?_⟩;rw[<- rr.length];exact aM.mpr rfl
 | [],p=>exact p.elim
 | [.non],p=>exact p.elim
 | [.bl _],p=>exact p.elim
 | [.int _],p=>exact p.elim
 | [.str _],p=>exact p.elim
 | [.mZ _ _],p=>exact p.elim
 | [.je _ _],p=>exact p.elim
 |_::_::_,p=>exact(by simp only[uI]at p;exact p.elim)
theorem vd(hm:X.mg "len"=none) (ha:SE X B W e fa) (hg:Gl X "len":=by rfl) (he:a9 [e] X.env=[(false,aS e X.env)]:=by rfl):SE X B W (.Call (.Name "len" p) [e] [] pos) (fA (ao fa aR) uI) :=
 wg vV aiR hg hm PySem.boot_len (ak ha aK he)  (by decide) (by decide) he rfl
def qg:List D->Rs D
 | [.lst ds]=>.ok (.tup ds)
 | [.tup ds]=>.ok (.tup ds)
 |_=>.no
theorem ach:rQ K (fun xs H Q=>∃p ys,xs=[.ref p]/\((rG K H p ys/\∀l,H l=none->Q (.ref l) (upd H l (.tup ys)))∨(pB K H p ys/\Q (.ref p) H))) qg:=by
 intro B W σ ρ G H ds vs Q s r p
 match ds,p with
 | [.lst ds],p =>
  obtain⟨v,vs',rfl,r1,r2⟩:=aQ.mp r;obtain⟨a,us,rfl,q,rr⟩:=aW.mp r1;rw[bG.mp r2];refine⟨a,us,rfl,.inl ⟨s.en.gh.seq q,fun c hc=>?_⟩⟩;have x:=Cp (xs:=us) s.en.gh s.en.tp hc;exact p _ _ _ x (bw.mpr ⟨c,us,rfl,.of bA,rr.mono x.gg⟩)
 | [.tup ds],p =>
  obtain⟨v,vs',rfl,r1,r2⟩:=aQ.mp r;obtain⟨a,us,rfl,q,rr⟩:=bw.mp r1;rw[bG.mp r2];exact⟨a,us,rfl,.inr ⟨Same.gK s.en.gh q,Post.ok s p r1⟩⟩
 | [],p=>exact p.elim
 | [.non],p=>exact p.elim
 | [.bl _],p=>exact p.elim
 | [.int _],p=>exact p.elim
 | [.str _],p=>exact p.elim
 | [.mZ _ _],p=>exact p.elim
 | [.je _ _],p=>exact p.elim
 |_::_::_,p=>exact(by simp only[qg]at p;exact p.elim)
open PyProof.Rows in
theorem KZ:iQ X (.builtin "divmod") (fun xs H Q=>∃i j,xs=[.int i,.int j]/\CDB i j/\∀p,H p=none->Q (.ref p) (upd H p (.tup [.int (i / j),.int (i % j)]))):=by intro pins s σ H xs us Q I r h;obtain⟨i,j,rfl,hc,q⟩:=h;have h1:=hc.1;obtain⟨u,w',rfl,⟨t,rfl⟩,⟨t',rfl⟩⟩:=alr r;refine divmod_int (by lia) ?_ (.inl hc.py);rw[Int.fdiv_eq_ediv_of_nonneg i (by lia),Int.fmod_eq_emod_of_nonneg i (by lia)];have hn:H s.heap.objs.size=none:=I.hok.fresh (bj _);refine⟨.ref s.heap.objs.size,_,?_,rfl,q _ hn⟩;refine I.laid (fun b o e=>b0 _ e) (bj _) ⟨by simp only[cv,fI];rw[dA];decide,[.int (i / j) s.toks,.int (i % j) (s.toks + 1)],.cons ⟨_,rfl⟩ (.cons ⟨_,rfl⟩ .nil),?_⟩;exact⟨_,cy s.heap rfl,rfl,0,rfl⟩
def gDm:List D->Rs D
 | [.int i,.int j]=>if CDB i j then .ok (.tup [.int (i / j),.int (i % j)]) else .no
 |_=>.no
theorem alz:rQ K (fun xs H Q=>∃i j,xs=[.int i,.int j]/\CDB i j/\∀p,H p=none->Q (.ref p) (upd H p (.tup [.int (i / j),.int (i % j)]))) gDm:=by
 intro B W σ ρ G H ds vs Q s r p;unfold gDm at p;split at p
 ·rename_i i j;obtain⟨v,vs',rfl,r1,r2⟩:=aQ.mp r;obtain⟨v2,vs'',rfl,r3,r4⟩:=aQ.mp r2;rw[aM.mp r1,aM.mp r3,bG.mp r4];by_cases hc:CDB i j
  ·rw[if_pos hc]at p;refine⟨i,j,rfl,hc,fun c hc=>?_⟩;have x:=Cp (xs:=[.int (i / j),.int (i % j)]) s.en.gh s.en.tp hc;exact p _ _ _ x (bw.mpr ⟨c,_,rfl,.of bA,aQ.mpr ⟨_,_,rfl,aM.mpr rfl,.one (aM.mpr rfl)⟩⟩)
  ·rw[if_neg hc]at p;exact p.elim
 ·exact p.elim
end
inductive Ou where
 |nx (ρ:au)|rt (d:D)|bk (ρ:au)|ct (ρ:au)|ex (c:Str) (n:Int) (ρ:au)|no|rx (d:D) (ρ:au)|rl (ds:List D)
def cI(K:ah)(B:Bs)(W:Wi)(G:Hp)(o:Ou)(De:Ends):Prop :=
 match o with
 | .nx ρ'=>∀σ' H' G',SR K B σ' H' ρ' G'->Same G G'->De.nx σ' H'
 | .bk ρ'=>∀σ' H' G',SR K B σ' H' ρ' G'->Same G G'->De.bk σ' H'
 | .ct ρ'=>∀σ' H' G',SR K B σ' H' ρ' G'->Same G G'->De.ct σ' H'
 | .rt d=>∀v H' G',Ext B.1 B.2 G' H'->Same G G'->Rep K G' d v->De.rt v H'
 | .ex c n ρ'=>∀σ' H' G',SR K B σ' H' ρ' G'->Same G G'->W c n σ' H'
 | .no=>False
 | .rx d ρ'=>∀v σ' H' G',SR K B σ' H' ρ' G'->Same G G'->Rep K G' d v->De.rt v H'
 | .rl ds=>∀a ws H' G',Ext B.1 B.2 G' H'->Same G G'->G' a=none->B.2 a=none->H' a=some (.lst ws)->bL K G' ds ws->De.rt (.ref a) H'
def tS(K:ah)(B:Bs)(W:Wi)(g:au->Ou):TS:=fun De σ H=>∃ρ G,SR K B σ H ρ G/\cI K B W G (g ρ) De
def SS(X:Cx)(B:Bs)(W:Wi)(st:be)(g:au->Ou):Prop:=PS X st (tS X.K B W g)
def uM(X:Cx)(B:Bs)(W:Wi)(st:List be)(g:au->Ou):Prop:=Vx X st (tS X.K B W g)
def aci(o:Ou)(k:au->Ou):Ou:=match o with
 | .nx ρ=>k ρ
 |o=>o
def oR{α:Type}(r:Rs α)(ρ:au)(k:α->Ou):Ou:=match r with
 | .ok a=>k a
 | .ex c n=>.ex c n ρ
 | .no=>.no
section
variable{X:Cx}{K:ah}{B:Bs}{W:Wi}{σ:St}{G G' H:Hp}{ρ:au}{De De':Ends}
theorem cI.same{o:Ou}(h:cI K B W G o De)(e:Same G G'):cI K B W G' o De:=by
 cases o with
 |nx ρ'=>exact fun σ' H' G'' s q=>h σ' H' G'' s (e.trans q)
 |bk ρ'=>exact fun σ' H' G'' s q=>h σ' H' G'' s (e.trans q)
 |ct ρ'=>exact fun σ' H' G'' s q=>h σ' H' G'' s (e.trans q)
 |rt d=>exact fun v H' G'' x q=>h v H' G'' x (e.trans q)
 |ex c n ρ'=>exact fun σ' H' G'' s q=>h σ' H' G'' s (e.trans q)
 |no=>exact h
 |rx d ρ'=>exact fun v σ' H' G'' s q=>h v σ' H' G'' s (e.trans q)
 |rl ds=>exact fun a ws H' G'' s q=>h a ws H' G'' s (e.trans q)
theorem iu{r:Rs D}{k:D->Ou}{Q:VK}(s:SR K B σ H ρ G)(p:cI K B W G (oR r ρ k) De)(h:∀d v H' G',r=.ok d->Ext G H G' H'->Rep K G' d v->cI K B W G' (k d) De->Q v H'):Post K W σ G H r Q:=by
 cases r with
 |ok d=>exact fun v H' G' e r=>h d v H' G' rfl e r (cI.same p e.gg)
 |ex c n=>exact fun H' G' e=>p σ H' G' (s.ext e) e.gg
 |no=>exact p
theorem aiS:uM X B W [] .nx:=Vx.imp afo fun De σ H ⟨ρ,G,s,p⟩=>p σ H G s (.refl _)
theorem afz{st:be}{rest:List be}{g k:au->Ou}(h1:SS X B W st g)(h2:uM X B W rest k):uM X B W (st::rest) (fun ρ=>aci (g ρ) k):=by
 refine Vx.imp (abD h1 h2) fun De σ H ⟨ρ,G,s,p⟩=>⟨ρ,G,s,?_⟩
 dsimp only at p;cases e:g ρ with
 |nx ρ'=>rw[e]at p;exact fun σ' H' G' s' q=>⟨ρ',G',s',cI.same (show cI X.K B W G (k ρ') De from p) q⟩
 |bk ρ'=>rw[e]at p;exact p
 |ct ρ'=>rw[e]at p;exact p
 |rt d=>rw[e]at p;exact p
 |ex c n ρ'=>rw[e]at p;exact p
 |no=>rw[e]at p;exact p
 |rx d ρ'=>rw[e]at p;exact p
 |rl ds=>rw[e]at p;exact p
theorem aiT{st:be}{g:au->Ou}(h1:SS X B W st g):uM X B W [st] g:=afp h1
theorem aiU{e:ag}{pos}{f:au->Rs D}(h:SE X B W e f):SS X B W (.Return (some e) pos) (fun ρ=>oR (f ρ) ρ .rt) :=
 PS.imp (Vy h) fun De σ H ⟨ρ,G,s,p⟩=>⟨ρ,G,s,iu s p fun d v H' G' _ e r q=>q v H' G' (s.en.trans e) (.refl _) r⟩
theorem alA{c:ag}{a b:List be}{pos:Pos}{fc:au->Rs Bool}{ga gb:au->Ou}(hc:ST X B W c fc)(ha:uM X B W a ga)(hb:uM X B W b gb):SS X B W (.If c a b pos) (fun ρ=>oR (fc ρ) ρ fun x=>if x=true then ga ρ else gb ρ):=by
 refine PS.imp (ahw hc ha hb) fun De σ H ⟨ρ,G,s,p⟩=>⟨ρ,G,s,?_⟩
 dsimp only at p;cases e:fc ρ with
 |ok x =>
  rw[e]at p;intro H' G' ee;have p':cI X.K B W G (if x=true then ga ρ else gb ρ) De:=p;cases x with
  |true=>rw[if_pos rfl]at p' ⊢;exact⟨ρ,G',s.ext ee,p'.same ee.gg⟩
  |false=>rw[if_neg (by simp)]at p' ⊢;exact⟨ρ,G',s.ext ee,p'.same ee.gg⟩
 |ex c n=>rw[e]at p;exact fun H' G' ee=>p σ H' G' (s.ext ee) ee.gg
 |no=>rw[e]at p;exact p
abbrev Tg:=D->au->Option au
def tG(K:ah)(B:Bs)(h:Tg):TG:=fun v σ H Q=>∃ρ G d,SR K B σ H ρ G/\Rep K G d v/\∃ρ',h d ρ=some ρ'/\∀σ',SR K B σ' H ρ' G->Q σ' H
def tGs(K:ah)(B:Bs)(h:List D->au->Option au):TGs:=fun vs σ H Q=>∃ρ G ds,SR K B σ H ρ G/\bL K G ds vs/\∃ρ',h ds ρ=some ρ'/\∀σ',SR K B σ' H ρ' G->Q σ' H
def SG(X:Cx)(B:Bs)(tg:ag)(h:Tg):Prop:=PG X tg (tG X.K B h)
def SGs(X:Cx)(B:Bs)(tg:List ag)(h:List D->au->Option au):Prop:=PGs X tg (tGs X.K B h)
theorem PG.imp{e:ag}{t t':TG}(h:PG X e t)(i:∀v σ H Q,t' v σ H Q->t v σ H Q):PG X e t':=fun pins s σ H v u Q I r q=>h pins s σ H v u Q I r (i v σ H Q q)
theorem PGs.imp{e:List ag}{t t':TGs}(h:PGs X e t)(i:∀v σ H Q,t' v σ H Q->t v σ H Q):PGs X e t':=fun pins s σ H v u Q I r q=>h pins s σ H v u Q I r (i v σ H Q q)
def bh(i:Nat):Tg:=fun d ρ=>some (ρ.set i (.fz d))
def qj:List D->au->Option au:=fun ds ρ=>match ds with|[]=>some ρ|_=>none
def cN(h:Tg)(k:List D->au->Option au):List D->au->Option au:=fun ds ρ=>match ds with|d::ds=>(h d ρ).bind (k ds)|[]=>none
def oH(n:Nat)(k:List D->au->Option au):Tg:=fun d ρ=>match d with|.tup ds=>if ds.length=n then k ds ρ else none|_=>none
theorem afA{i:Nat}{x:Str}{pos:Pos}(hN:X.N.Nodup)(hi:X.N[i]?=some x)(hx:Kw X.env.scope x)(hf:X.fn x=true∨X.env.scope.names.lookup x=some .local:=by first|exact .inl rfl|exact .inr rfl|assumption):SG X B (.Name x pos) (bh i) :=
 PG.imp (Yr hN hi hx hf) fun v σ H Q ⟨ρ,G,d,s,r,ρ',e,q⟩=>by cases e;exact q _ (s.set r)
theorem ql:SGs X B [] qj:=PGs.imp Ys fun v σ H Q ⟨ρ,G,ds,s,r,ρ',e,q⟩=>by
 cases ds with
 |nil=>cases e;exact⟨bG.mp r,q _ s⟩
 |cons d ds=>cases e
theorem dO{e:ag}{es:List ag}{h:Tg}{k:List D->au->Option au}(h1:SG X B e h)(h2:SGs X B es k)(hs:(dy (e::es) X.env).map (·.2)=assign e X.env::(dy es X.env).map (·.2):=by rfl):SGs X B (e::es) (cN h k) :=
 PGs.imp (Dc h1 h2 hs) fun v σ H Q ⟨ρ,G,ds,s,r,ρ',e,q⟩=>by
  cases ds with
  |nil=>cases e
  |cons d ds =>
   obtain⟨w,ws,rfl,r1,r2⟩:=aQ.mp r;unfold cN at e;dsimp only at e;cases e1:h d ρ with
   |none=>rw[e1]at e;cases e
   |some ρ1 =>
    rw[e1]at e;exact⟨w,ws,rfl,ρ,G,d,s,r1,ρ1,e1,fun σ1 s1=>⟨ρ1,G,ds,s1,r2,ρ',e,q⟩⟩
theorem vf{es:List ag}{k:Nat}{pos:Pos}{n:Nat}{h:List D->au->Option au}(hc:X.calm=true)(hh:SGs X B es h)
  (hn:(dy es X.env).length=n:=by rfl) (hst:(dy es X.env).findIdx? (·.1)=none:=by rfl):SG X B (.Tuple es k pos) (oH n h) :=
 PG.imp (abE hc hh hn hst) fun v σ H Q ⟨ρ,G,d,s,r,ρ',e,q⟩=>by
  cases d with
  |tup ds =>
   unfold oH at e;dsimp only at e;by_cases hl:ds.length=n
   ·simp only[if_pos hl]at e;obtain⟨a,vs,rfl,q1,rr⟩:=bw.mp r;exact⟨a,vs,rfl,Same.gK s.en.gh q1,by rw[<- rr.length];exact hl,ρ,G,ds,s,rr,ρ',e,q⟩
   ·simp only[if_neg hl]at e;cases e
  |_=>cases e
def oO(o:Option au):Ou:=match o with|some ρ=>.nx ρ|none=>.no
theorem aiV{tg e:ag}{pos:Pos}{f:au->Rs D}{h:Tg}(he:SE X B W e f)(hg:SG X B tg h)(hs:ke [tg] e pos.line X.env=pure false:=by rfl)(hw:kg [tg] e X.env=pure none:=by rfl)
  (h1:(dy [tg] X.env).map (·.2)=[assign tg X.env]:=by rfl):SS X B W (.Assign [tg] e pos) (fun ρ=>oR (f ρ) ρ fun d=>oO (h d ρ)) :=
 PS.imp (Kz he hg hs hw h1) fun De σ H ⟨ρ,G,s,p⟩=>⟨ρ,G,s,iu s p fun d v H' G' _ e r q=>by
  cases e1:h d ρ with
  |none=>rw[e1]at q;exact q.elim
  |some ρ'=>rw[e1]at q;exact⟨ρ,G',d,s.ext e,r,ρ',e1,fun σ' s'=>q σ' H' G' s' (.refl _)⟩⟩
theorem aiW{i:Nat}{x:Str}{e:ag}{pos pos':Pos}{f:au->Rs D}(hN:X.N.Nodup)(hi:X.N[i]?=some x)(hx:Kw X.env.scope x)(he:SE X B W e f)(hs:d6 e (some (.Name x pos')) pos.line X.env=pure false:=by rfl)(hf:X.fn x=true∨X.env.scope.names.lookup x=some .local:=by first|exact .inl rfl|exact .inr rfl|assumption) :
  SS X B W (.Assign [.Name x pos'] e pos) (fun ρ=>oR (f ρ) ρ fun d=>.nx (ρ.set i (.fz d))) :=
 PS.imp (yj hN hi hx he hs hf) fun De σ H ⟨ρ,G,s,p⟩=>⟨ρ,G,s,iu s p fun d v H' G' _ e r q=>q _ H' G' ((s.ext e).set r) (.refl _)⟩
theorem SR.acj(h:SR K B σ H ρ G){i:Nat}{z:Sl}{o:HO}{p:ab}(w:z.own=true)(r:rN K G p z o)(hp:H p=none)(hz:∀ds,z≠.op ds:=by intro _ h;cases h):SR K B (σ.set i (some (.ref p))) (upd H p o) (ρ.set i z) G:=by
 have x:=YF (o:=o) h.en.gh h.en.tp (fun xs e=>by subst e;exact r.tup) hp;have h':=h.ext x;have rR:∀{j:Nat}{y:Sl},(ρ.set i z)[j]?=some y->(i=j/\y=z/\i < ρ.length)∨(i≠j/\ρ[j]?=some y):=fun {j y} q=>by
  by_cases e:i=j
  ·subst e;have hl:i < ρ.length:=by have:=(di.mp q).1;simpa using this
   rw[dk hl]at q;cases q;exact .inl ⟨rfl,rfl,hl⟩
  ·rw[cS e]at q;exact .inr ⟨e,q⟩
 refine⟨h'.en,by simp[h.len],fun j d q=>?_,fun j y q wy=>?_,fun j k y y' a q1 w1 q2 w2 q3 q4=>?_,fun j ds a q1 q2=>?_,h'.co⟩
 ·rcases rR q with ⟨_,e,_⟩|⟨e,q⟩
  ·rw[<- e]at w;cases w
  ·rw[cS e];exact h'.fz j d q
 ·rcases rR q with ⟨e,e2,hl⟩|⟨e,q⟩
  ·subst e;subst e2;exact⟨p,o,dk (by rw[<- h.len];exact hl),bA,h.en.gh.free hp,h.en.hh.free hp,r⟩
  ·rw[cS e];exact h'.own j y q wy
 ·have fresh:∀{l:Nat}{y:Sl},ρ[l]?=some y->y.own=true->σ[l]?≠some (some (.ref p)):=fun {l y} q wy z=>by
   obtain⟨a,vs',h1,h2,_⟩:=h.own l y q wy;rw[h1]at z;have:a=p:=by injection z with z;injection z with z;injection z
   rw[this,hp]at h2;cases h2
  rcases rR q1 with ⟨e1,_,l1⟩|⟨n1,z1⟩
  ·rcases rR q2 with ⟨e2,_⟩|⟨n2,z2⟩
   ·exact e1.symm.trans e2
   ·subst e1;rw[dk (by rw[<- h.len];exact l1)]at q3;have:a=p:=by injection q3 with z;injection z with z;injection z with z;exact z.symm
    subst this;rw[cS n2]at q4;exact(fresh z2 w2 q4).elim
  ·rcases rR q2 with ⟨e2,_,l2⟩|⟨n2,z2⟩
   ·subst e2;rw[dk (by rw[<- h.len];exact l2)]at q4;have:a=p:=by injection q4 with z;injection z with z;injection z with z;exact z.symm
    subst this;rw[cS n1]at q3;exact(fresh z1 w1 q3).elim
   ·rw[cS n1]at q3;rw[cS n2]at q4;exact h.ap j k y y' a z1 w1 z2 w2 q3 q4
 ·rcases rR q1 with ⟨_,e,_⟩|⟨e,q⟩
  ·exact absurd e.symm (hz ds)
  ·rw[cS e]at q2;exact h.tie j ds a q q2
theorem SR.acn(h:SR K B σ H ρ G){i:Nat}{ds:List D}{vs:List V}{p:ab}(r:bL K G ds vs)(hp:H p=none):SR K B (σ.set i (some (.ref p))) (upd H p (.lst vs)) (ρ.set i (.ow ds)) G:=h.acj rfl ⟨vs,rfl,r⟩ hp
theorem SR.wj(h:SR K B σ H ρ G){i:Nat}{y z:Sl}{o:HO}{a:ab}(q:ρ[i]?=some y)(wy:y.own=true)(ha:σ[i]?=some (some (.ref a)))(wz:z.own=true)(r:rN K G a z o)(hz:∀ds,z=.op ds->∃es,y=.op es:=by intro _ h;cases h):SR K B σ (upd H a o) (ρ.set i z) G:=by
 obtain⟨a',o0,e1,h2,h3,h4,h5⟩:=h.own i y q wy;have ea:a'=a:=by rw[e1]at ha;injection ha with z;injection z with z;injection z
 subst ea;have hl:i < ρ.length:=(di.mp q).1;have rR:∀{j:Nat}{x:Sl},(ρ.set i z)[j]?=some x->(i=j/\x=z)∨(i≠j/\ρ[j]?=some x):=fun {j x} q=>by
  by_cases e:i=j
  ·subst e;rw[dk hl]at q;cases q;exact .inl ⟨rfl,rfl⟩
  ·rw[cS e]at q;exact .inr ⟨e,q⟩
 have ne:∀b o,G b=some o->b≠a':=fun b o z w=>by rw[w,h3]at z;cases z
 refine⟨⟨h.en.gg,fun b o z=>?_,fun b o z=>?_,fun b xs z=>?_,h.en.nw⟩,by simp[h.len],fun j d z'=>?_,fun j x z' wx=>?_,fun j k x x' c z1 w1 z2 w2 z3 z4=>?_,fun j ds c z1 z2=>?_,h.co.upd h2 h5.tab⟩
 ·rw[aZ (aY z h4)];exact h.en.hh b o z
 ·rw[aZ (ne b o z)];exact h.en.gh b o z
 ·by_cases w:b=a'
  ·subst w;rw[bA]at z;cases z;exact r.tup.elim
  ·rw[aZ w]at z;exact h.en.tp b xs z
 ·rcases rR z' with ⟨_,e⟩|⟨_,z'⟩
  ·rw[<- e]at wz;cases wz
  ·exact h.fz j d z'
 ·rcases rR z' with ⟨e,e2⟩|⟨e,z'⟩
  ·subst e;subst e2;exact⟨a',o,ha,bA,h3,h4,r⟩
  ·obtain⟨b,us,w1,w2,w3,w4,w5⟩:=h.own j x z' wx;have hne:b≠a':=fun w=>by subst w;exact e (h.ap i j y x b q wy z' wx ha w1)
   exact⟨b,us,w1,by rw[aZ hne];exact w2,w3,w4,w5⟩
 ·rcases rR z1 with ⟨e1,_⟩|⟨_,z1⟩ <;> rcases rR z2 with ⟨e2,_⟩|⟨_,z2⟩
  ·exact e1.symm.trans e2
  ·subst e1;exact h.ap i k y x' c q wy z2 w2 z3 z4
  ·subst e2;exact h.ap j i x y c z1 w1 q wy z3 z4
  ·exact h.ap j k x x' c z1 w1 z2 w2 z3 z4
 ·rcases rR z1 with ⟨e1,e2⟩|⟨_,z1⟩
  ·subst e1;obtain⟨es,e3⟩:=hz ds e2.symm;rw[e3]at q;exact h.tie i es c q z2
  ·exact h.tie j ds c z1 z2
theorem SR.write(h:SR K B σ H ρ G){i:Nat}{ds es:List D}{vs:List V}{a:ab}(q:ρ[i]?=some (.ow ds))(ha:σ[i]?=some (some (.ref a)))(r:bL K G es vs):SR K B σ (upd H a (.lst vs)) (ρ.set i (.ow es)) G:=h.wj q rfl ha rfl ⟨vs,rfl,r⟩
def CT(i:Nat)(ρ:au):au:=match ρ[i]? with|some (.ow ds)=>ρ.set i (.fz (.lst ds))|_=>ρ
theorem SR.CT(h:SR K B σ H ρ G)(i:Nat):∃G',Same G G'/\SR K B σ H (CT i ρ) G':=by
 unfold Vl.CT;split
 ·rename_i ds q;obtain⟨a,vs,e1,h2,h3,h4,h5⟩:=h.ow i ds q;have hl:i < ρ.length:=(di.mp q).1;have gg:Same G (upd G a (.lst vs)):=fun b o z=>by rw[aZ (aY z h3)];exact z
  refine⟨upd G a (.lst vs),gg,⟨h.en.gg.trans gg,h.en.hh,fun b o z=>?_,fun b xs z=>?_,fun b o z w=>?_⟩,by simp[h.len],fun j d z=>?_,fun j fs z wz=>?_,fun j k fs gs c z1 w1 z2 w2 z3 z4=>?_,fun j es c z1 z2=>?_,h.co⟩
  ·by_cases w:b=a
   ·subst w;rw[bA]at z;cases z;exact h2
   ·rw[aZ w]at z;exact h.en.gh b o z
  ·by_cases w:b=a
   ·subst w;rw[h2]at z;cases z
   ·rw[aZ w];exact h.en.tp b xs z
  ·rw[aZ (aY z h4)];exact h.en.nw b o z w
  ·by_cases e:i=j
   ·subst e;rw[dk hl]at z;cases z;exact⟨_,e1,aW.mpr ⟨a,vs,rfl,.of bA,h5.mono gg⟩⟩
   ·rw[cS e]at z;obtain⟨v,w1,w2⟩:=h.fz j d z;exact⟨v,w1,w2.mono gg⟩
  ·by_cases e:i=j
   ·subst e;rw[dk hl]at z;cases z;cases wz
   ·rw[cS e]at z;obtain⟨b,us,w1,w2,w3,w4,w5⟩:=h.own j fs z wz;have hne:b≠a:=fun w=>by subst w;exact e (h.ap i j _ fs b q rfl z wz e1 w1)
    exact⟨b,us,w1,w2,by rw[aZ hne];exact w3,w4,w5.mono gg⟩
  ·have nj:i≠j:=fun e=>by subst e;rw[dk hl]at z1;cases z1;cases w1
   have nk:i≠k:=fun e=>by subst e;rw[dk hl]at z2;cases z2;cases w2
   rw[cS nj]at z1;rw[cS nk]at z2;exact h.ap j k fs gs c z1 w1 z2 w2 z3 z4
  ·have nj:i≠j:=fun e=>by subst e;rw[dk hl]at z1;cases z1
   rw[cS nj]at z1;exact h.tie j es c z1 z2
 ·exact⟨G,.refl _,h⟩
theorem afB{st:List be}{g:au->Ou}(i:Nat)(h:uM X B W st g):uM X B W st (fun ρ=>g (CT i ρ)) :=
 Vx.imp h fun De σ H ⟨ρ,G,s,p⟩=>let ⟨G',gg,s'⟩:=s.CT i;⟨_,G',s',cI.same p gg⟩
theorem aiX{i:Nat}{x:Str}{es:List ag}{pos pos' lp:Pos}{f:au->Rs (List D)}(hN:X.N.Nodup)(hi:X.N[i]?=some x)(hx:Kw X.env.scope x)(he:SA X B W es f)(hs:d6 (.List es lp) (some (.Name x pos')) pos.line X.env=pure false:=by rfl)(hf:X.fn x=true∨X.env.scope.names.lookup x=some .local:=by first|exact .inl rfl|exact .inr rfl|assumption) :
  SS X B W (.Assign [.Name x pos'] (.List es lp) pos) (fun ρ=>oR (f ρ) ρ fun ds=>if ds.length<=1000 then .nx (ρ.set i (.ow ds)) else .no):=by
 refine PS.imp (yj hN hi hx (VG he) hs hf) fun De σ H ⟨ρ,G,s,p⟩=>⟨ρ,G,s,?_⟩
 dsimp only at p;cases e:f ρ with
 |ok ds =>
  rw[e]at p;have p':cI X.K B W G (if ds.length<=1000 then .nx (ρ.set i (.ow ds)) else .no) De:=p;by_cases hl:ds.length<=1000
  ·rw[if_pos hl]at p';exact fun vs H' G' x r=>⟨by rw[<- r.length];exact Dm hl,fun c hc=>p' _ _ G' ((s.ext x).acn r hc) x.gg⟩
  ·rw[if_neg hl]at p';exact p'.elim
 |ex c n=>rw[e]at p;exact fun H' G' x=>p σ H' G' (s.ext x) x.gg
 |no=>rw[e]at p;exact p
theorem aar{i:Nat}{x:Str}{e:ag}{pos p1 p2 cp:Pos}{f:au->Rs D}(hv:PE X (.Name x p1) (GD i))(he:SE X B W e f)
  (hst:a9 [e] X.env=[(false,aS e X.env)]) {pe:PE X (.Call (.Attribute (.Name x p1) "append" p2) [e] [] cp) (tBM X.K "list" Yz (GD i) (abK (tF X.K B W f) aiD))}
  (hs:d6 (.Call (.Attribute (.Name x p1) "append" p2) [e] [] cp) none pos.line X.env=pure false:=by rfl) :
  SS X B W (.Expr (.Call (.Attribute (.Name x p1) "append" p2) [e] [] cp) pos) (fun ρ=>match ρ[i]? with|some (.ow ds)=>oR (f ρ) ρ fun d=>if ds.length < 1000000 then .nx (ρ.set i (.ow (ds++[d]))) else .no|_=>.no):=by
 refine PS.imp (Ky pe hs) fun De σ H fV=>?_;obtain⟨ρ,G,s,p⟩:=fV;dsimp only at p;cases q:ρ[i]? with
 |none=>rw[q]at p;exact p.elim
 |some z =>
  rw[q]at p;cases z with
  |no=>exact p.elim
  |fz d=>exact p.elim
  |od _=>exact p.elim
  |op _=>exact p.elim
  |ow ds =>
   obtain⟨a,vs,e1,h2,h3,h4,h5⟩:=s.ow i ds q;refine⟨_,e1,.inl ⟨rfl,vs,.of h2⟩,ρ,G,s,iu s p fun d v H' G' _ x r p'=>?_⟩;by_cases hl:ds.length < 1000000
   ·rw[if_pos hl]at p';have s':=s.ext x;refine⟨a,vs,v,rfl,rfl,x.hh _ _ h2,by rw[<- h5.length];exact dP hl (by rw[dA];decide),?_⟩;exact p' σ _ G' (s'.write q e1 ((h5.mono x.gg).append (.one r))) (.refl _)
   ·rw[if_neg hl]at p';exact p'.elim
end
def dD(h:Tg)(gb:au->Ou):List D->au->Ou
 | [],ρ=>.nx ρ
 |d::ds,ρ=>match h d ρ with
  |none=>.no
  |some ρ1=>match gb ρ1 with
   | .nx ρ2=>dD h gb ds ρ2
   | .ct ρ2=>dD h gb ds ρ2
   | .bk ρ2=>.nx ρ2
   |o=>o
def WF:Wi:=fun _ _ _ _=>False
section
variable{X:Cx}{K:ah}{B:Bs}{W:Wi}{σ:St}{G G' H:Hp}{ρ:au}{De De':Ends}
theorem wk{h:Tg}{gb:au->Ou}{d:D}{ds:List D}{v:V}{Pv:St->Hp->Prop}(s:SR K B σ H ρ G)(r:Rep K G d v)(p:cI K B W G (dD h gb (d::ds) ρ) De)
  (hP:∀σ' H' ρ' G',SR K B σ' H' ρ' G'->Same G G'->cI K B W G' (dD h gb ds ρ') De->Pv σ' H') :
  tG K B h v σ H fun σ2 H2=>tS K B W gb { De with nx:=Pv,ct:=Pv,bk:=De.nx } σ2 H2:=by
 unfold dD at p;cases e:h d ρ with
 |none=>rw[e]at p;exact p.elim
 |some ρ1 =>
  rw[e]at p;refine⟨ρ,G,d,s,r,ρ1,e,fun σ1 s1=>⟨ρ1,G,s1,?_⟩⟩;dsimp only at p;cases e2:gb ρ1 with
  |nx ρ2=>rw[e2]at p;exact fun σ' H' G' s' q=>hP σ' H' ρ2 G' s' q (cI.same p q)
  |ct ρ2=>rw[e2]at p;exact fun σ' H' G' s' q=>hP σ' H' ρ2 G' s' q (cI.same p q)
  |bk ρ2=>rw[e2]at p;exact p
  |rt d=>rw[e2]at p;exact p
  |ex c n ρ2=>rw[e2]at p;exact p
  |no=>rw[e2]at p;exact p
  |rx d ρ2=>rw[e2]at p;exact p
  |rl ds=>rw[e2]at p;exact p
def Jr(h:Tg)(gb:au->Ou)(f:au->Rs D):au->Ou:=fun ρ=>oR (f ρ) ρ fun d=>match d with|.lst ds=>dD h gb ds ρ|_=>.no
def Js(h:Tg)(gb:au->Ou)(f:au->Rs D):au->Ou:=fun ρ=>oR (f ρ) ρ fun d=>match d with|.tup ds=>dD h gb ds ρ|_=>.no
def Ds(h:Tg)(gb:au->Ou)(f:au->Rs D):au->Ou:=fun ρ=>oR (f ρ) ρ fun d=>match d with|.int n=>if-(2 ^ 62)<=n/\n < 2 ^ 62 then dD h gb ((bu n.toNat).map fun(i:Nat)=>.int i) ρ else .no|_=>.no
def Dt(h:Tg)(gb:au->Ou)(fs:au->Rs (List D)):au->Ou:=fun ρ=>oR (fs ρ) ρ fun ds=>match ds with
 | [.int m,.int n]=>if (-(2 ^ 62)<=m/\m < 2 ^ 62/\-(2 ^ 62)<=n/\n < 2 ^ 62) then dD h gb ((bu (n - m).toNat).map fun(i:Nat)=>.int (m + i)) ρ else .no|_=>.no
theorem La{tg iter:ag}{body:List be}{pos:Pos}{f:au->Rs D}{h:Tg}{gb:au->Ou}(hp:ki (ar X.prog X.w) X.A X.env X.xe)(hc:X.calm=true)(hi:SE X B W iter f)(hg:SG X B tg h)(hb:uM X B W body gb)
  (hs:∀x,fw iter X.env x=pure x:=by intro _;rfl):SS X B W (.For tg iter body [] pos) (Jr h gb f):=by
 refine PS.imp (yq hp hc (Yt hi) hg hb hs) fun De σ H fV=>?_;obtain⟨ρ,G,s,p⟩:=fV;refine⟨ρ,G,s,iu s p fun d v H1 G1 _ e r p1=>?_⟩;cases d with
 |lst ds =>
  obtain⟨a,vs,rfl,q,rr⟩:=aW.mp r;refine⟨a,rfl,⟨vs,e.gh.seq q⟩,abG (fun i σ H=>∃ρ G,SR X.K B σ H ρ G/\rG X.K G a vs/\bL X.K G ds vs/\cI X.K B W G (dD h gb (ds.drop i) ρ) De) ⟨ρ,G1,s.ext e,q,rr,by simpa using p1⟩ (fun i σ H _ ⟨ρ,G,s,q,_⟩=>s.en.gh.seq q) ?_ ?_⟩
  ·rintro i x σ2 H2 hx ⟨ρ2,G2,s2,q2,r2,p2⟩;obtain⟨d,hd,rd⟩:=r2.get' hx;have hl:=(di.mp hd).1;rw[ip hl,(di.mp hd).2]at p2;exact wk s2 rd p2 fun σ' H' ρ' G' s' q' p'=>⟨ρ',G',s',q'.seq q2,r2.mono q',p'⟩
  ·rintro σ2 H2 ⟨ρ2,G2,s2,q2,r2,p2⟩;rw[<- r2.length,o7]at p2;exact p2 σ2 H2 G2 s2 (.refl _)
 |_=>exact p1.elim
theorem Lb{tg iter:ag}{body:List be}{pos:Pos}{f:au->Rs D}{h:Tg}{gb:au->Ou}(hp:ki (ar X.prog X.w) X.A X.env X.xe)(hc:X.calm=true)(hi:SE X B W iter f)(hg:SG X B tg h)(hb:uM X B W body gb)
  (hs:∀x,fw iter X.env x=pure x:=by intro _;rfl):SS X B W (.For tg iter body [] pos) (Js h gb f):=by
 refine PS.imp (yq hp hc (abF hi) hg hb hs) fun De σ H fV=>?_;obtain⟨ρ,G,s,p⟩:=fV;refine⟨ρ,G,s,iu s p fun d v H1 G1 _ e r p1=>?_⟩;cases d with
 |tup ds =>
  obtain⟨a,vs,rfl,q,rr⟩:=bw.mp r;refine⟨a,rfl,⟨vs,Same.gK e.gh q⟩,afs (fun i σ H=>∃ρ G,SR X.K B σ H ρ G/\pB X.K G a vs/\bL X.K G ds vs/\cI X.K B W G (dD h gb (ds.drop i) ρ) De) ⟨ρ,G1,s.ext e,q,rr,by simpa using p1⟩ (fun i σ H _ ⟨ρ,G,s,q,_⟩=>Same.gK s.en.gh q) ?_ ?_⟩
  ·rintro i x σ2 H2 hx ⟨ρ2,G2,s2,q2,r2,p2⟩;obtain⟨d,hd,rd⟩:=r2.get' hx;have hl:=(di.mp hd).1;rw[ip hl,(di.mp hd).2]at p2;exact wk s2 rd p2 fun σ' H' ρ' G' s' q' p'=>⟨ρ',G',s',Same.gK q' q2,r2.mono q',p'⟩
  ·rintro σ2 H2 ⟨ρ2,G2,s2,q2,r2,p2⟩;rw[<- r2.length,o7]at p2;exact p2 σ2 H2 G2 s2 (.refl _)
 |_=>exact p1.elim
theorem vg{h:Tg}{gb:au->Ou}{lo:Int}{n:Nat}(s:SR K B σ H ρ G)(p:cI K B W G (dD h gb ((bu n).map fun(i:Nat)=>.int (lo + i)) ρ) De) :
  ∃W0:Nat->Nat->St->Hp->Prop,(∃m,W0 0 m σ H)/\∀i m σ H,W0 i m σ H ->
   ((Itr lo n).stop i H/\De.nx σ H)∨((Itr lo n).go i H/\∃N:St->Hp->Prop,(∀σ' H',N σ' H'->∃m',m' < m/\W0 (i + 1) m' σ' H')/\∀x H',(Itr lo n).yld i H x H'->tG K B h x σ H' fun σ2 H2=>tS K B W gb { De with nx:=N,ct:=N,bk:=De.nx } σ2 H2):=by
 refine aak (fun i σ H=>∃ρ G,SR K B σ H ρ G/\cI K B W G (dD h gb (((bu n).map fun(i:Nat)=>D.int (lo + i)).drop i) ρ) De) ⟨ρ,G,s,by simpa using p⟩ ?_ ?_
 ·rintro i σ2 H2 hi ⟨ρ2,G2,s2,p2⟩;have hl:i < ((bu n).map fun(i:Nat)=>D.int (lo + i)).length:=by simpa using hi
  rw[ip hl]at p2;rw[show((bu n).map fun(i:Nat)=>D.int (lo + i))[i]=D.int (lo + i) by simp]at p2;exact wk s2 (aM.mpr rfl) p2 fun σ' H' ρ' G' s' q' p'=>⟨ρ',G',s',p'⟩
 ·rintro σ2 H2 ⟨ρ2,G2,s2,p2⟩;rw[ll (by simp)]at p2;exact p2 σ2 H2 G2 s2 (.refl _)
theorem Ld{tg e:ag}{body:List be}{pos p1 p2:Pos}{f:au->Rs D}{h:Tg}{gb:au->Ou}(hp:ki (ar X.prog X.w) X.A X.env X.xe) (hc:X.calm=true) (hm:X.mg "range"=none) (hi:SE X B W e f) (hg:SG X B tg h) (hb:uM X B W body gb)
  (hgl:Gl X "range":=by rfl) (hst:a9 [e] X.env=[(false,aS e X.env)]:=by rfl)
  (hs:∀x,fw (.Call (.Name "range" p1) [e] [] p2) X.env x=pure x:=by intro _;rfl):SS X B W (.For tg (.Call (.Name "range" p1) [e] [] p2) body [] pos) (Ds h gb f):=by
 refine PS.imp (yq hp hc (Je hgl hm (dg hi gP (by rw[hst];rfl)) hst) hg hb hs) fun De σ H fV=>?_;obtain⟨ρ,G,s,p⟩:=fV;refine⟨ρ,G,s,iu s p fun d v H1 G1 _ e r p1=>?_⟩;cases d with
 |int n =>
  dsimp only at p1;by_cases c:-(2 ^ 62)<=n/\n < 2 ^ 62
  ·rw[if_pos c]at p1;refine⟨n,by rw[aM.mp r],c.1,c.2,vg (s.ext e) ?_⟩;simpa using p1
  ·rw[if_neg c]at p1;exact p1.elim
 |_=>exact p1.elim
theorem aco{tg e e':ag}{body:List be}{pos p1 p2:Pos}{f f':au->Rs D}{h:Tg}{gb:au->Ou}(hp:ki (ar X.prog X.w) X.A X.env X.xe) (hc:X.calm=true) (hm:X.mg "range"=none) (hi:SE X B W e f) (hi':SE X B W e' f') (hg:SG X B tg h) (hb:uM X B W body gb)
  (hgl:Gl X "range":=by rfl) (hst:a9 [e,e'] X.env=[(false,aS e X.env),(false,aS e' X.env)]:=by rfl) (hst2:a9 [e'] X.env=[(false,aS e' X.env)]:=by rfl)
  (hs:∀x,fw (.Call (.Name "range" p1) [e,e'] [] p2) X.env x=pure x:=by intro _;rfl):SS X B W (.For tg (.Call (.Name "range" p1) [e,e'] [] p2) body [] pos) (Dt h gb (ao f (ao f' aR))):=by
 refine PS.imp (yq hp hc (aai hgl hm (ak hi (ak hi' aK (by rw[hst2];rfl)) (by rw[hst,hst2])) hst hst2) hg hb hs) fun De σ H fV=>?_;obtain⟨ρ,G,s,p⟩:=fV;refine⟨ρ,G,s,?_⟩;unfold Dt at p;cases e1:ao f (ao f' aR) ρ with
 |ok ds =>
  rw[e1]at p;intro vs H1 G1 e r;have p1:=cI.same p e.gg;simp only[oR]at p1;split at p1
  ·rename_i m n;obtain⟨v,vs',rfl,r1,r2⟩:=aQ.mp r;obtain⟨v2,vs'',rfl,r3,r4⟩:=aQ.mp r2;rw[aM.mp r1,aM.mp r3,bG.mp r4];by_cases c:(-(2 ^ 62)<=m/\m < 2 ^ 62/\-(2 ^ 62)<=n/\n < 2 ^ 62)
   ·rw[if_pos c]at p1;exact⟨m,n,rfl,c,vg (s.ext e) p1⟩
   ·rw[if_neg c]at p1;exact p1.elim
  ·exact p1.elim
 |ex c n=>rw[e1]at p;exact fun H' G' x=>p σ H' G' (s.ext x) x.gg
 |no=>rw[e1]at p;exact p
def acp:Ou->Ou
 | .ex _ _ _=>.no
 |o=>o
theorem aas{o:Ou}(p:cI K B W G (acp o) De):cI K B WF G o De:=by
 cases o with
 |ex c n ρ=>exact p.elim
 |_=>exact p
theorem PS.nox{st:be}{t:TS}(h:PS X.nox st t):PS X st t:=fun pins s σ H D I hw =>
 dQ (h pins s σ H D (I.wish _) hw) (fun _ _ q=>q.rK) fun _ _ z=>fE z
theorem aiZ{st:be}{g:au->Ou}(h:SS X.nox B WF st g):SS X B W st (fun ρ=>acp (g ρ)) :=
 PS.imp (PS.nox h) fun De σ H ⟨ρ,G,s,p⟩=>⟨ρ,G,s,aas p⟩
def zig(n:Int):Nat:=if 0<=n then 2 * n.toNat else 2 * (-n).toNat + 1
def Cq(c:Str)(n:Int):aa:=.str c (zig n)
def RP(K:ah)(G H:Hp)(Q:VK)(E:XK)(r:Rs D):Prop:=match r with
 | .ok d=>∀v H' G',Ext G H G' H'->Rep K G' d v->Q v H'
 | .ex c n=>∀H' G',Ext G H G' H'->E (Cq c n) none H'
 | .no=>False
def spV(K:ah)(k:Nat)(g:List D->Rs D):Sp:=fun vs H Q E=>vs.length=k/\∃G ds,Ex0 K G H/\bL K G ds vs/\RP K G H Q E (g ds)
def gD:Ou->Rs D
 | .nx _=>.ok .non
 | .rt d=>.ok d
 | .ex c n _=>.ex c n
 |_=>.no
def Du{α:Type}:Rs α->Rs α
 | .ex _ _=>.no
 |o=>o
def bF(N:List Str)(ds:List D):au:=ds.map .fz++gd (N.length - ds.length) .no
theorem Dv{N:List Str}{ds:List D}{vs:List V}(e:Ex0 K G H)(r:bL K G ds vs):SR K ⟨G,H,0⟩ (L2.start N vs) H (bF N ds) G:=by
 have acq:∀(i:Nat) (z:Sl),(bF N ds)[i]?=some z->z.own=true->False:=fun i z q w=>by
  unfold bF at q;by_cases hi:i < (ds.map Sl.fz).length
  ·rw[fy hi,cf]at q;cases e1:ds[i]? with
   |none=>rw[e1]at q;cases q
   |some d=>rw[e1]at q;cases q;cases w
  ·rw[gi (by lia),jI]at q;split at q <;> cases q;cases w
 refine⟨e.toExt,?_,fun i d q=>?_,fun i z q w=>(acq i z q w).elim,fun i j z z' a q w=>(acq i z q w).elim,fun i ds a q=>(acq i _ q rfl).elim,e.co⟩
 ·unfold bF L2.start;simp[r.length]
 ·unfold bF at q;unfold L2.start;by_cases hi:i < (ds.map Sl.fz).length
  ·rw[fy hi,cf]at q;cases e1:ds[i]? with
   |none=>rw[e1]at q;cases q
   |some d' =>
    rw[e1]at q;cases q;obtain⟨v,h1,h2⟩:=r.get e1;refine⟨v,?_,h2⟩;rw[fy (by rw[b8,<- r.length];simpa using hi),cf,h1];rfl
  ·rw[gi (by lia),jI]at q;split at q <;> cases q
theorem QK{o:Ou}{Q:VK}{E:XK}(h:RP K B.1 B.2 Q E (gD o)):cI K B (fun c n _ H'=>E (Cq c n) none H') G o { nx:=fun _ H'=>Q .non H',rt:=Q }:=by
 cases o with
 |nx ρ'=>exact fun σ' H' G' s q=>h .non H' G' s.en (bR.mpr rfl)
 |rt d=>exact fun v H' G' x q r=>h v H' G' x r
 |ex c n ρ'=>exact fun σ' H' G' s q=>h H' G' s.en
 |bk _=>exact h.elim
 |ct _=>exact h.elim
 |no=>exact h.elim
 |rx _ _=>exact h.elim
 |rl _=>exact h.elim
section
variable{P:aE}{w:ay}{mg:Str->Option aa}{base:Heap}{x qual:Str}{st:be}{f:ab}{fd:b9}{N ps:List Str}{k:Nat}
end
end
theorem Le{prog:aE}{w:ay}{A:a8}{s:ae}{R:Result->ae->Prop}{elt target iter:ag}{ifs:List ag}{scope:Scope}{pos:Pos}{it acc:aa}{env:Env}(J:Nat->ae->Prop)
  (turn:∀k t,J k t->ai (ar prog w) A (dS it) (fun o t1=>match o with
   |none=>R (.ok .next) t1
   |some x=>ai (ar prog w) A (oI target it x) (fun _ t2=>ai (ar prog w) A (assign target env x) (fun _ t3 =>
     ai (ar prog w) A (forIn ifs true fun c go=>if go=true then do { let y <- isTrue c env (aS c env);pure (ForInStep.yield y) } else pure (ForInStep.yield go)) (fun yes t4 =>
      if yes=true then ai (ar prog w) A (aS elt env) (fun y t5 =>
       ai (ar prog w) A (call (.builtin "list.append") [acc,y]) (fun _ t6=>∃j,j < k/\J j t6) (fun _ _=>False) t5) (fun _ _=>False) t4
      else ∃j,j < k/\J j t4) (fun _ _=>False) t3) (fun _ _=>False) t2) (fun _ _=>False) t1) (fun _ _=>False) t)
  (n:Nat) (h:J n s):fx (ar prog w) A (.compLoop (.ListComp elt [⟨target,iter,ifs,0⟩] scope pos) 0 it acc env) R s:=by
 refine codeAny_loop rfl J (fun k t hJ=>?_) n h;show ai _ A (Sem.onRaise (compTurn (.ListComp elt [⟨target,iter,ifs,0⟩] scope pos) 0 it acc env) (fun x=>do noteFrame x env;theTreesLotGoes x)) _ _ t;refine wpAny_noted ?_;rw[compTurn_list];refine af (sf (af (dQ (turn k t hJ) (fun o t1 g1=>?_) fun _ _ z=>z.elim)));cases o with
 |none=>exact az g1
 |some x =>
  refine af (dQ g1 (fun _ t2 g2=>?_) fun _ _ z=>z.elim);refine af (dQ g2 (fun _ t3 g3=>af (dQ g3 (fun yes t4 g4=>?_) fun _ _ z=>z.elim)) fun _ _ z=>z.elim);cases yes with
  |true=>exact af (af (dQ g4 (fun y t5 g5=>af (dQ g5 (fun _ t6 g6=>az (az ⟨rfl,g6⟩)) fun _ _ z=>z.elim)) fun _ _ z=>z.elim))
  |false=>exact az ⟨rfl,g4⟩
abbrev jH(X:Cx)(N:List Str)(s₀:ae)(H₀:Hp)(sc:Scope)(cl:List (Str×ab))(C:ab)(ex:List ab)(pins:List (ab×Obj)):Cx where
 prog:=X.prog
 w:=X.w
 K:=X.K
 mg:=X.mg
 base:=X.base
 A:=X.A
 N:=N
 s₀:=s₀
 H₀:=H₀
 env:=compEnvC sc cl C X.env
 outer:=X.stack
 stack:=X.stack
 ex:=ex
 fn:=fun _=>false
 calm:=X.calm
 pn:=X.pn++pins
 xe:=fun _ _=>False
def fJ(sc:Scope)(env:Env):List (Str×ab):=sc.names.foldl (fun cs y=>if y.2 == .free then (y.1,(env.cells.lookup y.1).getD 0)::cs else cs) []
theorem rA{sc:Scope}{env:Env}(h:∀y∈sc.names,y.2=.free->∃c,env.cells.lookup y.1=some c):closureFor sc env=pure (fJ sc env):=by
 unfold closureFor fJ;have key:∀(l:List (Str×d3)) (cs:List (Str×ab)),(∀y∈l,y.2=.free->∃c,env.cells.lookup y.1=some c) ->
   (forIn l cs (fun(x:Str×d3) (r:List (Str×ab))=>if (x.2 == d3.free)=true then do let a <- cellOf env x.1;pure (ForInStep.yield ((x.1,a)::r)) else pure (ForInStep.yield r)):Sem (List (Str×ab))) =
    pure (l.foldl (fun cs y=>if y.2 == .free then (y.1,(env.cells.lookup y.1).getD 0)::cs else cs) cs):=by
  intro l
  induction l with
  |nil=>intro cs _;rfl
  |cons y l ih =>
   intro cs hl;rw[List.forIn_cons,kx];by_cases hk:(y.2 == d3.free)=true
   ·obtain⟨c,hc⟩:=hl y df (by simpa using hk);rw[if_pos hk,if_pos hk];unfold cellOf;rw[hc];exact ih _ fun z hz=>hl z (dt _ hz)
   ·rw[if_neg hk,if_neg hk];exact ih _ fun z hz=>hl z (dt _ hz)
 have:=key sc.names [] h;simp only[]at this ⊢;rw[this];rfl
theorem acr{sc:Scope}{env:Env}:∀y∈fJ sc env,(∃k∈sc.names,k.1=y.1/\k.2=.free)/\y.2=(env.cells.lookup y.1).getD 0:=by
 unfold fJ;have key:∀(l:List (Str×d3)) (cs:List (Str×ab)) (y:Str×ab),y∈l.foldl (fun cs y=>if y.2 == .free then (y.1,(env.cells.lookup y.1).getD 0)::cs else cs) cs ->
   y∈cs∨((∃k∈l,k.1=y.1/\k.2=.free)/\y.2=(env.cells.lookup y.1).getD 0):=by
  intro l
  induction l with
  |nil=>intro cs y h;exact .inl h
  |cons z l ih =>
   intro cs y h;rw[kx]at h;rcases ih _ y h with h|⟨⟨k,hk,e⟩,e2⟩
   ·by_cases hz:(z.2 == d3.free)=true
    ·rw[if_pos hz]at h;rcases bz.mp h with e|h
     ·subst e;exact .inr ⟨⟨z,df,rfl,by simpa using hz⟩,rfl⟩
     ·exact .inl h
    ·rw[if_neg hz]at h;exact .inl h
   ·exact .inr ⟨⟨k,dt _ hk,e⟩,e2⟩
 intro y hy;rcases key sc.names [] y hy with h|h
 ·cases h
 ·exact h
theorem wu{sc:Scope}{env:Env}{n:Str}(h:(n,d3.free)∈sc.names):∃c,(fJ sc env).lookup n=some c:=by
 have key:∀(l:List (Str×d3)) (cs:List (Str×ab)),((n,d3.free)∈l∨∃c,cs.lookup n=some c)->∃c,(l.foldl (fun cs y=>if y.2 == .free then (y.1,(env.cells.lookup y.1).getD 0)::cs else cs) cs).lookup n=some c:=by
  intro l
  induction l with
  |nil =>
   intro cs h;rcases h with h|h
   ·cases h
   ·exact h
  |cons z l ih =>
   intro cs h;rw[kx];refine ih _ ?_;rcases h with h|⟨c,hc⟩
   ·rcases bz.mp h with e|h
    ·subst e;refine .inr ⟨(env.cells.lookup n).getD 0,?_⟩;rw[if_pos (by rfl),lr]
    ·exact .inl h
   ·right;by_cases hz:(z.2 == d3.free)=true
    ·rw[if_pos hz];by_cases e:n=z.1
     ·subst e;exact⟨_,lr⟩
     ·exact⟨c,by rw[i6,show(n == z.1)=false by simpa using e];exact hc⟩
    ·rw[if_neg hz];exact⟨c,hc⟩
 exact key sc.names [] (.inl h)
section
variable{X:Cx}{pins:List (ab×Obj)}{σ:St}{H:Hp}{s:ae}
theorem nA{sc:Scope}{env:Env}{x:Str}{k:d3}(h:(relabel sc env).names.lookup x=some k):(∃k',sc.names.lookup x=some k'/\(k'=k∨(k'=.free/\k=.cell))):=by
 have key:∀l:List (Str×d3),sF x (l.map fun(n,k)=>if (k == .free && env.scope.kind == .function && env.kindOf n == some .cell) then (n,d3.cell) else (n,k))=some k ->
   ∃k',l.lookup x=some k'/\(k'=k∨(k'=.free/\k=.cell)):=by
  intro l
  induction l with
  |nil=>intro h;cases h
  |cons y l ih =>
   intro h;obtain⟨n,kk⟩:=y;rw[b_]at h;by_cases e:(x == n)=true
   ·refine⟨kk,by rw[i6,e],?_⟩;dsimp only at h;split at h
    ·rename_i hc;rw[i6,e]at h;have h':d3.cell=k:=cz h;exact .inr ⟨by simp only[ky,beq_iff_eq]at hc;exact hc.1.1,h'.symm⟩
    ·rw[i6,e]at h;exact .inl (cz h)
   ·have e':(x == n)=false:=by simpa using e
    obtain⟨k',a,b⟩:=ih (by
     dsimp only at h;split at h <;> (rw[i6,e']at h;exact h))
    exact⟨k',by rw[i6,e'];exact a,b⟩
 exact key sc.names h
structure vh (X:Cx)(sc:Scope)(N:List Str)(nt:Nat)(caps:List Nat):Prop where
 kind:sc.kind=.function
 Lf:∀y∈sc.names,y.2≠.cell
 fr:∀y∈sc.names,y.2=.free->X.env.kindOf y.1=some .cell∨X.env.kindOf y.1=some .free
 len:N.length=nt + caps.length
 cap:∀(j i:Nat) (x:Str),caps[j]?=some i->N[nt + j]?=some x->X.N[i]?=some x/\sc.names.lookup x=some .free
theorem vh.cells{sc:Scope}{N:List Str}{nt:Nat}{caps:List Nat}(c:vh X sc N nt caps)(I:Inv X pins σ H s):∀y∈sc.names,y.2=.free->∃a,X.env.cells.lookup y.1=some a :=
 fun y hy hf=>I.ok.has y.1 (c.fr y hy hf)
theorem vh.cl{sc:Scope}{N:List Str}{nt:Nat}{caps:List Nat}(c:vh X sc N nt caps)(I:Inv X pins σ H s){x:Str}{a:ab}(h:(fJ sc X.env).lookup x=some a):X.env.cells.lookup x=some a:=by have hm:=gf h;obtain⟨⟨k,hk,e1,e2⟩,e3⟩:=acr _ hm;obtain⟨b,hb⟩:=c.cells I k hk e2;rw[e1]at hb;dsimp only at e3 hb;rw[hb]at e3;rw[hb,e3];rfl
def rT(nt:Nat)(caps:List Nat)(σ:St):St:=gd nt none++caps.map fun i=>(σ[i]?).getD none
theorem VP{sc:Scope}{N:List Str}{nt:Nat}{caps:List Nat}{fp:List ab}{h':Heap}{tk:Nat}(c:vh X sc N nt caps)(I:Inv X pins σ H s)(hfp:∀b∈fp,pZ X pins H b/\b < s.heap.objs.size)
  (hn:h'.Ns s.heap.objs.size fun _=>none) (hk:∀b o,s.heap.get? b=some o->h'.get? b=some o) :
  Inv (jH X N s H sc (fJ sc X.env) s.heap.objs.size fp pins) [] (rT nt caps σ) H { s with heap:=h',toks:=tk }:=by
 have clX:∀{x:Str}{a:ab},(fJ sc X.env).lookup x=some a->X.env.cells.lookup x=some a:=fun h=>c.cl I h;have stk:∀b,b≠X.env.locals->b∉X.fs->b∉pA X.stack:=fun b h1 h2 h3=>(bz.mp (I.uX b h3)).elim h1 h2;refine⟨⟨I.ok.mod,c.kind,I.ok.glob,I.ok.blt,bj _,fun x y a h1 h2=>I.ok.inj x y a (clX h1) (clX h2),fun x hx=>?_,fun x a hf=>absurd (show false=true from hf) sL,I.ok.hd,I.ok.frames,.inl rfl,fun b hb=>⟨bS (hfp b hb).2,fun x a ha=>(hfp b hb).1.2.2.2.2.1 x a (clX ha)⟩,
  fun b o e=>I.bs b o e,cx I.ok.bsz I.sz,fun b o e hb=>?_,fun b hb=>stk b (hfp b hb).1.2.1 (hfp b hb).1.2.2.1,I.stack,I.Cj⟩,
  rfl,I.bare,Un.kept hk,⟨_,hn,fun i x v h1 h2 h3=>?_⟩,fun x a ha=>?_,I.hok.fresh (bj _),fun x a ha=>I.rm x a (clX ha),fun p hp=>?_,I.hok.kept hk,?_⟩
 ·-- has
  have hx':(relabel sc X.env).names.lookup x=some .cell∨(relabel sc X.env).names.lookup x=some .free:=hx;have:sc.names.lookup x=some .free:=by
   rcases hx' with hx'|hx'
   ·obtain⟨k',h1,h2⟩:=nA hx';rcases h2 with h2|⟨h2,_⟩
    ·subst h2;exact(c.Lf _ (gf h1) rfl).elim
    ·rw[h1,h2]
   ·obtain⟨k',h1,h2⟩:=nA hx';rcases h2 with h2|⟨h2,e⟩
    ·rw[h1,h2]
    ·cases e
  exact wu (gf this)
 ·-- aag
  obtain⟨_,_,_,h4,_⟩:=(hfp b hb).1;rcases h4 with h4|h4
  ·exact I.ok.aag b o e h4
  ·exact absurd (dP (bg e) (cx I.ok.bsz h4)) (f9 _)
 ·-- loc
  unfold rT at h2;by_cases hi:i < (gd nt (none:Option V)).length
  ·rw[fy hi,jI]at h2;split at h2 <;> cases h2
  ·rw[gi (by lia),cf]at h2;rw[m9]at h2 hi;cases e:caps[i - nt]? with
   |none=>rw[e]at h2;cases h2
   |some k =>
    rw[e]at h2;have h2':(σ[k]?).getD none=some v:=cz h2;have hs:σ[k]?=some (some v):=by
     cases e3:σ[k]? with
     |none=>rw[e3]at h2';cases h2'
     |some z=>rw[e3]at h2';exact congrArg some h2'
    obtain⟨hX,hl0⟩:=c.cap (i - nt) k x e (by rw[show nt + (i - nt)=i by lia];exact h1);have hf:(x,d3.free)∈sc.names:=gf hl0;obtain⟨m,_,hl⟩:=I.loc;have hkind:=c.fr _ hf rfl;obtain⟨u,r,l⟩:=hl k x v hX hs (by rcases hkind with q|q;exact .inr (.inl q);exact .inr (.inr q));refine⟨u,r,.inr ⟨?_,?_⟩⟩
    ·have h3':(relabel sc X.env).names.lookup x=some .local∨(relabel sc X.env).names.lookup x=some .cell∨(relabel sc X.env).names.lookup x=some .free:=h3;rcases h3' with q|q|q
     ·obtain⟨k',a1,a2⟩:=nA q;exfalso;rw[hl0]at a1;cases a1;rcases a2 with a2|⟨_,a2⟩ <;> cases a2
     ·exact .inl q
     ·exact .inr q
    ·obtain⟨cc,hcc⟩:=wu (env:=X.env) hf;refine⟨cc,hcc,?_⟩;rcases l with ⟨q,_⟩|⟨_,c2,hc2,z⟩
     ·rcases hkind with q'|q' <;> (rw[q]at q';cases q')
     ·rw[clX hcc]at hc2;cases hc2;obtain⟨o,ho,hd⟩:=z;exact⟨o,hk _ _ ho,hd⟩
 ·obtain⟨v,o,ho,hd⟩:=I.cell x a (clX ha);exact⟨v,o,hk _ _ ho,hd⟩
 ·rw[gc]at hp;obtain⟨e,n,ne,nf,d⟩:=I.pin p hp;exact⟨hk _ _ e,n,bS (bg e),stk _ ne nf,d⟩
 ·unfold rT;rw[dC,m9,b8];exact c.len.symm
end
def Yl(K:ah)(J:It)(ds:List D)(G:Hp):Prop:=∀(i:Nat) (G1 H1:Hp),Same G G1->Ext G1 H1 G1 H1 ->
 (∀d,ds[i]?=some d->J.go i H1/\∀x H2,J.yld i H1 x H2->∃G2,Ext G1 H1 G2 H2/\Rep K G2 d x)/\(ds.length<=i->J.stop i H1)
def acs(K:ah)(W:Wi)(σ:St)(G H:Hp)(r:Rs (List D))(R:It->Hp->Prop):Prop :=
 match r with
 | .ok ds=>∀J H' G',Ext G H G' H'->Yl K J ds G'->R J H'
 | .ex c n=>∀H' G',Ext G H G' H'->W c n σ H'
 | .no=>False
def tI(K:ah)(B:Bs)(W:Wi)(f:au->Rs (List D)):TI:=fun σ H R=>∃ρ G,SR K B σ H ρ G/\acs K W σ G H (f ρ) R
def SI(X:Cx)(B:Bs)(W:Wi)(tg iter:ag)(f:au->Rs (List D)):Prop:=PI X tg iter (tI X.K B W f)
def asL:D->Rs (List D)
 | .lst ds=>.ok ds
 |_=>.no
def VR:D->Rs (List D)
 | .tup ds=>.ok ds
 |_=>.no
section
variable{X:Cx}{K:ah}{B:Bs}{W:Wi}{σ:St}{G H:Hp}{ρ:au}{tg iter:ag}{f:au->Rs D}
theorem PI.imp{t t':TI}(h:PI X tg iter t)(i:∀σ H R,t' σ H R->t σ H R):PI X tg iter t':=fun pins s σ H R I q=>h pins s σ H R I (i σ H R q)
theorem aja{a:ab}{ds:List D}{vs:List V}(q:pB K G a vs)(r:bL K G ds vs):Yl K (Itt K a) ds G:=by intro i G1 H1 gg e;have q1:=Same.gK e.gh (Same.gK gg q);refine⟨fun d hd=>?_,fun hl=>⟨vs,q1,by rw[<- r.length];exact hl⟩⟩;obtain⟨v,hv,rv⟩:=r.get hd;refine⟨⟨vs,v,q1,hv⟩,fun x H2 y=>?_⟩;obtain⟨e2,y⟩:=y;subst e2;have:=y vs q1;rw[hv]at this;cases this;exact⟨G1,e,rv.mono gg⟩
theorem Cr{as:D->Rs (List D)}{r:Rs D}{R:It->Hp->Prop}{Q:VK}(p:acs K W σ G H (r.bind as) R)(h:∀d v H' G' ds,as d=.ok ds->Ext G H G' H'->Rep K G' d v->(∀J Qz G'',Ext G' H' G'' Qz->Yl K J ds G''->R J Qz)->Q v H')(hn:∀d c n,as d≠.ex c n):Post K W σ G H r Q:=by
 cases r with
 |ok d =>
  intro v H' G' e rv;have p':acs K W σ G H (as d) R:=p;cases e1:as d with
  |ok ds=>rw[e1]at p';exact h d v H' G' ds e1 e rv fun J Qz G'' e' y=>p' J Qz G'' (e.trans e') y
  |ex c n=>exact(hn d c n e1).elim
  |no=>rw[e1]at p';exact p'.elim
 |ex c n=>exact p
 |no=>exact p
theorem afC(hi:SE X B W iter f):SI X B W tg iter (fun ρ=>(f ρ).bind asL):=by
 refine PI.imp (Yt hi) fun σ H R ⟨ρ,G,s,p⟩=>⟨ρ,G,s,Cr p (fun d v H' G' ds e1 e rv k=>?_) (fun d c n z=>by cases d <;> cases z)⟩
 cases d with
 |lst es =>
  cases e1;obtain⟨a,vs,rfl,q,rr⟩:=aW.mp rv;refine⟨a,rfl,⟨vs,e.gh.seq q⟩,k _ H' G' (.refl e.gh e.tp) ?_⟩;intro i G1 H1 gg e';have q1:=e'.gh.seq (gg.seq q);refine⟨fun d hd=>?_,fun hl=>⟨vs,q1,by rw[<- rr.length];exact hl⟩⟩;obtain⟨v,hv,rv⟩:=rr.get hd;refine⟨⟨vs,v,q1,hv⟩,fun x H2 y=>?_⟩;obtain⟨e2,y⟩:=y;subst e2;have:=y vs q1;rw[hv]at this;cases this;exact⟨G1,e',rv.mono gg⟩
 |_=>cases e1
theorem ajb(hi:SE X B W iter f):SI X B W tg iter (fun ρ=>(f ρ).bind VR):=by
 refine PI.imp (abF hi) fun σ H R ⟨ρ,G,s,p⟩=>⟨ρ,G,s,Cr p (fun d v H' G' ds e1 e rv k=>?_) (fun d c n z=>by cases d <;> cases z)⟩
 cases d with
 |tup es =>
  cases e1;obtain⟨a,vs,rfl,q,rr⟩:=bw.mp rv;exact⟨a,rfl,⟨vs,Same.gK e.gh q⟩,k _ H' G' (.refl e.gh e.tp) (aja q rr)⟩
 |_=>cases e1
def QL(ρ:au):Prop:=∀(i:Nat) (z:Sl),ρ[i]?=some z->z.own=true->False
def qm(h:Tg):Prop:=∀d ρ ρ',QL ρ->h d ρ=some ρ'->QL ρ'
def eH(nt:Nat)(caps:List Nat)(ρ:au):au:=gd nt .no++caps.map fun i=>match ρ[i]? with|some (.fz d)=>.fz d|_=>.no
def jr(h:Tg)(ft:au->Rs Bool)(fe:au->Rs D):List D->au->Rs (List D)
 | [],_=>.ok []
 |d::ds,ρ=>match h d ρ with
  |none=>.no
  |some ρ1=>(ft ρ1).bind fun b=>if b=true then (fe ρ1).bind fun y=>(jr h ft fe ds ρ1).bind fun ys=>.ok (y::ys) else jr h ft fe ds ρ1
theorem qp{nt:Nat}{caps:List Nat}{ρ:au}:QL (eH nt caps ρ):=fun i z q w=>by
 unfold eH at q;by_cases hi:i < (gd nt Sl.no).length
 ·rw[fy hi,jI]at q;split at q <;> cases q;cases w
 ·rw[gi (by lia),cf]at q;cases e:caps[i - (gd nt Sl.no).length]? with
  |none=>rw[e]at q;cases q
  |some k =>
   rw[e]at q;have q':(match ρ[k]? with|some (.fz d)=>Sl.fz d|_=>.no)=z:=cz q;split at q' <;> (subst q';cases w)
theorem afD{nt:Nat}{caps:List Nat}{p:ab}(s:SR K B σ H ρ G)(hp:H p=none):SR K ⟨G,H,0⟩ (rT nt caps σ) (upd H p (.lst [])) (eH nt caps ρ) G:=by
 refine⟨KN s.en.gh s.en.tp hp,by simp[rT,eH],fun i d q=>?_,fun i z q w=>(qp i z q w).elim,fun i j z z' a q w=>(qp i z q w).elim,fun i ds a q=>(qp i _ q rfl).elim,s.co.same (KN s.en.gh s.en.tp hp).hh⟩;unfold eH at q;unfold rT;by_cases hi:i < nt
 ·rw[fy (by simpa using hi),jI]at q;split at q <;> cases q
 ·rw[gi (by simpa using hi),cf,m9]at q;rw[gi (by simpa using hi),cf,m9];cases e:caps[i - nt]? with
  |none=>rw[e]at q;cases q
  |some k =>
   rw[e]at q;have q':(match ρ[k]? with|some (.fz d)=>Sl.fz d|_=>.no)=.fz d:=cz q;cases e2:ρ[k]? with
   |none=>rw[e2]at q';cases q'
   |some z =>
    rw[e2]at q';cases z with
    |fz d' =>
     cases q';obtain⟨v,h1,h2⟩:=s.fz k _ e2;exact⟨v,by simp[h1],h2⟩
    |no=>cases q'
    |ow _=>cases q'
    |od _=>cases q'
    |op _=>cases q'
theorem SR.off{p:ab}{vs us:List V}(s:SR K B σ H ρ G)(hn:QL ρ)(hp:H p=some (.lst vs))(g:G p=none)(b:B.2 p=none):SR K B σ (upd H p (.lst us)) ρ G:=by
 refine⟨⟨s.en.gg,fun c o z=>?_,fun c o z=>?_,fun c xs z=>?_,s.en.nw⟩,s.len,s.fz,fun i z q w=>(hn i z q w).elim,fun i j z z' a q w=>(hn i z q w).elim,fun i ds a q=>(hn i _ q rfl).elim,s.co.upd hp (fun _ z=>by cases z)⟩
 ·rw[aZ (aY z b)];exact s.en.hh c o z
 ·rw[aZ (aY z g)];exact s.en.gh c o z
 ·by_cases w:c=p
  ·subst w;rw[bA]at z;cases z
  ·rw[aZ w]at z;exact s.en.tp c xs z
def dG(h:Tg)(ft:au->Rs Bool)(fe:au->Rs D)(nt:Nat)(caps:List Nat)(f:au->Rs (List D)):au->Rs D:=fun ρ =>
 (f ρ).bind fun ds=>Du ((jr h ft fe ds (eH nt caps ρ)).bind fun ys=>if ys.length<=1000000 then .ok (.lst ys) else .no)
theorem Lg{prog:aE}{w:ay}{A:a8}{E:aa->ae->Prop}{s:ae}{env:Env}{Q:Bool->ae->Prop}(h:Q true s) :
  ai (ar prog w) A (forIn ([]:List ag) true fun c r=>if r=true then do let ok <- isTrue c env (aS c env);pure (ForInStep.yield ok) else pure (ForInStep.yield r)) Q E s:=by
 simp only[List.forIn_nil];exact az h
theorem Jt{elt:ag}{ifs:List ag}{sc:Scope}{pos:Pos}{N:List Str}{nt:Nat}{caps:List Nat}{h:Tg}{ft:au->Rs Bool}{fe:au->Rs D}{fi:au->Rs (List D)}
  (c:vh X sc N nt caps) (hc:X.calm=true) (hnames:∀y∈sc.names,y.2=.local->sc.names.lookup y.1=some .local) (hi:SI X B W tg iter fi) (hno:qm h)
  (ht:∀s₀ H₀ C ex pins B',SG (jH X N s₀ H₀ sc (fJ sc X.env) C ex pins) B' tg h)
  (hif:(ifs=[]/\ft=fun _=>.ok true)∨∃c,ifs=[c]/\∀s₀ H₀ C ex pins B',ST (jH X N s₀ H₀ sc (fJ sc X.env) C ex pins) B' WF c ft)
  (he:∀s₀ H₀ C ex pins B',SE (jH X N s₀ H₀ sc (fJ sc X.env) C ex pins) B' WF elt fe)
  (hs:∀x,fw iter X.env x=pure x)
  {use:Option (aa->Sem Unit)}{QQ:aa->ae->Prop}{pins:List (ab×Obj)}{s:ae}{σ:St}{H G:Hp}{ρ:au}(I:Inv X pins σ H s) (sr:SR X.K B σ H ρ G)
  (p:match dG h ft fe nt caps fi ρ with
   | .ok d=>∀(D' C:ab) (H' G':Hp) (s5:ae) (fl:Flow),Ext G H G' H'->Rep X.K G' d (.ref D')->(∃m,s5.heap.Ns C m)->pZ X pins H' C->(∀h',et C s5.heap h'->Inv X pins σ H' { s5 with heap:=h' })->o8 (ar X.prog X.w) X.A X.xe use QQ (.ref D') C (.ok fl) s5
   | .ex c n=>∀H' G',Ext G H G' H'->W c n σ H'
   | .no=>False) :
  ai (ar X.prog X.w) X.A (comprehension (.ListComp elt [⟨tg,iter,ifs,0⟩] sc pos) sc X.env (firstIterPos [⟨tg,iter,ifs,0⟩] pos) (newList []) (firstAsync [⟨tg,iter,ifs,0⟩]) (firstIter [⟨tg,iter,ifs,0⟩] X.env) use) QQ X.xe s:=by
 refine wpAny_comprehension_free (use:=use) (cl:=fJ sc X.env) rfl hs (rA (c.cells I)) c.kind hnames ?_;show ai (ar X.prog X.w) X.A (aS iter X.env) _ X.xe s;refine dQ (hi pins s σ H (fun J H2=>∃G2 ds,Ext G H G2 H2/\Yl X.K J ds G2/\∃YS,jr h ft fe ds (eH nt caps ρ)=.ok YS/\YS.length<=1000000/\∀(D' C:ab) (H' G':Hp) (s5:ae) (fl:Flow),Ext G H G' H'->Rep X.K G' (.lst YS) (.ref D')->(∃m,s5.heap.Ns C m)->pZ X pins H' C->(∀h',et C s5.heap h'->Inv X pins σ H' { s5 with heap:=h' })->o8 (ar X.prog X.w) X.A X.xe use QQ (.ref D') C (.ok fl) s5) I ⟨ρ,G,sr,?_⟩) (fun v s1 h1=>dQ h1 (fun itv s2 h2=>?_) fun _ _ z=>z) fun _ _ z=>z
 ·unfold dG at p;cases e:fi ρ with
  |ok ds =>
   rw[e]at p;have p2:match Du ((jr h ft fe ds (eH nt caps ρ)).bind fun ys=>if ys.length<=1000000 then .ok (.lst ys) else .no) with
    | .ok d=>∀(D' C:ab) (H' G':Hp) (s5:ae) (fl:Flow),Ext G H G' H'->Rep X.K G' d (.ref D')->(∃m,s5.heap.Ns C m)->pZ X pins H' C->(∀h',et C s5.heap h'->Inv X pins σ H' { s5 with heap:=h' })->o8 (ar X.prog X.w) X.A X.xe use QQ (.ref D') C (.ok fl) s5
    | .ex c n=>∀H' G',Ext G H G' H'->W c n σ H'
    | .no=>False:=p
   refine fun J H' G' x y=>⟨G',ds,x,y,?_⟩
   cases e:jr h ft fe ds (eH nt caps ρ) with
   |ok YS =>
    rw[e]at p2;by_cases hl:YS.length<=1000000
    ·simp only[Rs.bind,if_pos hl,Du]at p2;exact⟨YS,rfl,hl,p2⟩
    ·simp only[Rs.bind,if_neg hl,Du]at p2
   |ex c n=>rw[e]at p2;exact p2.elim
   |no=>rw[e]at p2;exact p2.elim
  |ex c n=>rw[e]at p;exact p
  |no=>rw[e]at p;exact p
 obtain⟨it,fp,tn,J,H2,e,I2,T,st2,f2,G2,ds,x2,yl,YS,hYS,hlen,hQ⟩:=h2;subst e;refine fN (wpAny_newFunctionEnv c.Lf (by intro y hy;simp at hy) (fun h₁ hns₁ hsb₁=>?_) c.kind);have hD2:H2 s2.heap.objs.size=none:=I2.fresh;have I3:=I2.alx (ys:=[]) (its:=[]) (t':=s2.toks) .nil (by simp);have sr2:SR X.K B σ H2 ρ G2:=sr.ext x2;have fpl:∀b∈fp,b < s2.heap.objs.size:=fun b hb=>by obtain⟨o,ho,_⟩:=T.obj 0 _ st2 b hb;exact bg ho
 have hk:∀b o,(s2.heap.push { cls:=.type "list",data:=.seq ([]:List aa).toArray }).get? b=some o->h₁.get? b=some o:=fun b o z =>
  (hsb₁.2 b (bS (bg z))).trans (b0 _ z)
 have alD:∀b∈fp,pZ X pins (upd H2 s2.heap.objs.size (.lst [])) b/\b < (s2.heap.push { cls:=.type "list",data:=.seq ([]:List aa).toArray }).objs.size:=fun b hb=>by
  obtain⟨g1,g2⟩:=f2 b hb;refine⟨⟨?_,g2⟩,?_⟩
  ·rw[aZ (bS (fpl b hb))];exact g1
  ·rw[nB];exact jS (fpl b hb)
 have IY:=VP (h':=h₁) (tk:=s2.toks + ([]:List (Str×aa)).length) c I3 alD hns₁ hk;generalize hC:(s2.heap.push { cls:=.type "list",data:=.seq ([]:List aa).toArray }).objs.size=C at *;have srY:=afD (nt:=nt) (caps:=caps) sr2 hD2;have stk:∀b,b≠X.env.locals->b∉X.fs->b∉pA X.stack:=fun b h1 h2 h3=>(bz.mp (I2.uX b h3)).elim h1 h2;have hCl:s2.heap.objs.size + 1=C:=by rw[<- hC,nB]
 have stat:∀{H':Hp},(∀b∈fp,H' b=none)->∀b∈fp,pZ (jH X N { s2 with heap:=s2.heap.push { cls:=.type "list",data:=.seq ([]:List aa).toArray },toks:=s2.toks } (upd H2 s2.heap.objs.size (.lst [])) sc (fJ sc X.env) C fp pins) [] H' b:=fun {H'} hn b hb=>by
  obtain⟨_,g2,g3,g4,g5,g6⟩:=f2 b hb;refine⟨hn b hb,?_,stk b g2 g3,.inl hb,fun x a ha=>g5 x a (c.cl I2 ha),fun p hp=>?_⟩
  ·show b≠C;exact bS (hCl▸jS (fpl b hb))
  ·rw[gc]at hp;exact g6 p hp
 let Y:=jH X N { s2 with heap:=s2.heap.push { cls:=.type "list",data:=.seq ([]:List aa).toArray },toks:=s2.toks } (upd H2 s2.heap.objs.size (.lst [])) sc (fJ sc X.env) C fp pins
 let D':=s2.heap.objs.size
 let Jn:Nat->ae->Prop:=fun n s4=>∃(i:Nat) (ρ':au) (σ':St) (H' G':Hp) (yds:List D) (yvs:List V) (rest:List D),Inv Y [] σ' H' s4/\tn i s4.heap/\(∀b∈fp,H' b=none)/\SR X.K ⟨G2,H2,0⟩ σ' H' ρ' G'/\QL ρ'/\H' D'=some (.lst yvs)/\G' D'=none /\
  bL X.K G' yds yvs/\i<=ds.length/\n=ds.length - i/\jr h ft fe (ds.drop i) ρ'=.ok rest/\yds++rest=YS
 have loop:∀(n:Nat) (s4:ae),Jn n s4->fx (ar X.prog X.w) X.A (.compLoop (.ListComp elt [⟨tg,iter,ifs,0⟩] sc pos) 0 (.ref it) (.ref D') Y.env) (o8 (ar X.prog X.w) X.A X.xe use QQ (.ref D') C) s4:=by
  intro n0 s40 h0;refine Le (J:=Jn) ?_ n0 h0;rintro n s4 ⟨i,ρ',σ',H',G',yds,yvs,rest,I4,Ju,fr4,sr4,no4,hD4,hG4,ry4,hi4,rfl,hcd,hY⟩;by_cases hlt:i < ds.length
  ·obtain⟨yes,_⟩:=yl i G' H' sr4.en.gg sr4.yt;obtain⟨go,yields⟩:=yes ds[i] (by simp[hlt]);rw[ip hlt]at hcd;unfold jr at hcd;cases eh:h ds[i] ρ' with
   |none=>rw[eh]at hcd;cases hcd
   |some ρ1 =>
    rw[eh]at hcd;dsimp only at hcd;refine jD (T.item Y rfl rfl rfl hc i [] s4 σ' H' (fun _ _=>False) I4 (stat fr4) Ju go) fun r s5 fV=>?_;obtain⟨u,hr,h5⟩:=fV;subst hr;refine jD h5 fun _ s6 fV=>?_;obtain⟨x,H6,I6,r6,y6,st6,fr6⟩:=fV;obtain⟨G6,e6,aor⟩:=yields x H6 y6;have sr6:=sr4.ext e6;have I6':=I6.pinned (stat fr6) (T.obj _ _ st6);refine jD (ht _ _ _ _ _ ⟨G2,H2,0⟩ _ s6 σ' H6 x u (fun σ7 H7=>H7=H6/\SR X.K ⟨G2,H2,0⟩ σ7 H6 ρ1 G6) I6' r6 ⟨ρ',G6,ds[i],sr6,aor,ρ1,eh,fun σ7 z=>⟨rfl,z⟩⟩) fun _ s7 fV=>?_;obtain⟨σ7,H7,I7,eH7,sr7⟩:=fV;subst eH7;have no7:=hno _ _ _ no4 eh;have again:∀{σ8:St}{H8:Hp}{s8:ae},Inv Y ([]++yp fp s6.heap) σ8 H8 s8->Inv Y [] σ8 H8 s8/\tn (i + 1) s8.heap/\∀b∈fp,H8 b=none:=fun {σ8 H8 s8} I8=>by refine⟨I8.vR,T.keep _ _ _ st6 fun b hb o e=>(I8.pin (b,o) (eA _ (eA _ (qb hb e)))).1,fun b hb=>?_⟩;obtain⟨o,e,d⟩:=T.obj _ _ st6 b hb;exact(I8.pin (b,o) (eA _ (eA _ (qb hb e)))).2.1
    obtain⟨b,hb,hcd⟩:∃b,ft ρ1=.ok b/\(if b=true then (fe ρ1).bind fun y=>(jr h ft fe (ds.drop (i + 1)) ρ1).bind fun ys=>.ok (y::ys) else jr h ft fe (ds.drop (i + 1)) ρ1)=.ok rest:=by
     cases e:ft ρ1 with
     |ok b=>rw[e]at hcd;exact⟨b,rfl,hcd⟩
     |ex c n=>rw[e]at hcd;cases hcd
     |no=>rw[e]at hcd;cases hcd
    have test:ai (ar X.prog X.w) X.A (forIn ifs true fun c r=>if r=true then do let ok <- isTrue c Y.env (aS c Y.env);pure (ForInStep.yield ok) else pure (ForInStep.yield r)) (TP Y ([]++yp fp s6.heap) σ7 fun b' H8=>b'=b/\∃G8,Ext G6 H7 G8 H8) (fun _ _=>False) s7:=by
     rcases hif with ⟨e1,e2⟩|⟨cc,e1,hst⟩
     ·subst e1 e2;cases hb;exact Lg ⟨H7,I7,rfl,G6,sr7.yt⟩
     ·subst e1;refine wpAny_tests_one (hst _ _ _ _ _ ⟨G2,H2,0⟩ _ s7 σ7 H7 _ I7 ⟨ρ1,G6,sr7,?_⟩);rw[hb];exact fun H8 G8 e8=>⟨rfl,G8,e8⟩
    refine jD test fun ok s8 fV=>?_;obtain⟨H8,I8,eb,G8,e8⟩:=fV;subst eb;have sr8:=sr7.ext e8;have hD8:H8 D'=some (.lst yvs):=e8.hh _ _ (e6.hh _ _ hD4);have hG8:G8 D'=none:=e8.nw _ _ (e6.hh _ _ hD4) (e6.nw _ _ hD4 hG4);have ry8:=(ry4.mono e6.gg).mono e8.gg;cases ok with
    |true =>
     rw[if_pos rfl]at hcd ⊢;obtain⟨y,ys,hy,hys,hr⟩:∃y ys,fe ρ1=.ok y/\jr h ft fe (ds.drop (i + 1)) ρ1=.ok ys/\rest=y::ys:=by
      cases e:fe ρ1 with
      |ok y =>
       rw[e]at hcd;have hcd':((jr h ft fe (ds.drop (i + 1)) ρ1).bind fun ys=>Rs.ok (y::ys))=.ok rest:=hcd;cases e3:jr h ft fe (ds.drop (i + 1)) ρ1 with
       |ok ys=>rw[e3]at hcd';cases hcd';exact⟨y,ys,rfl,rfl,rfl⟩
       |ex c n=>rw[e3]at hcd';cases hcd'
       |no=>rw[e3]at hcd';cases hcd'
      |ex c n=>rw[e]at hcd;cases hcd
      |no=>rw[e]at hcd;cases hcd
     subst hr;refine jD (he _ _ _ _ _ ⟨G2,H2,0⟩ _ s8 σ7 H8 (fun v H9=>∃G9,Ext G8 H8 G9 H9/\Rep X.K G9 y v) I8 ⟨ρ1,G8,sr8,?_⟩) fun u9 s9 ⟨v9,H9,I9,r9,G9,e9,aox⟩=>?_
     ·rw[hy];exact fun v H9 G9 e9 r=>⟨G9,e9,r⟩
     have hD9:=e9.hh _ _ hD8;have hG9:=e9.nw _ _ hD8 hG8;have ryl:=ry8.length;have hYl:yds.length < 1000000:=by have:=congrArg eI hY;rw[dC,cv]at this;lia
     refine jD (Jl (X:=Y) _ s9 σ7 H9 (.ref D') [v9] (.ref D') [u9] (fun _ H10=>H10=upd H9 D' (.lst (yvs++[v9]))) I9 rfl (.cons r9 .nil) ⟨D',yvs,v9,rfl,rfl,hD9,by rw[<- ryl];exact dP hYl (by rw[dA];decide),rfl⟩) fun _ s10 fV=>?_;obtain⟨_,H10,I10,_,e10⟩:=fV;subst e10;obtain⟨J1,J2,J3⟩:=again I10;refine⟨ds.length - (i + 1),by lia,i + 1,ρ1,σ7,_,G9,yds++[y],yvs++[v9],ys,J1,J2,J3,(sr8.ext e9).off no7 hD9 hG9 hD2,no7,bA,hG9,(ry8.mono e9.gg).append (.one aox),hlt,rfl,hys,by rw[gN];exact hY⟩
    |false =>
     rw[if_neg (by simp)]at hcd ⊢;obtain⟨J1,J2,J3⟩:=again I8;exact⟨ds.length - (i + 1),by lia,i + 1,ρ1,σ7,H8,G8,yds,yvs,rest,J1,J2,J3,sr8,no7,hD8,hG8,ry8,hlt,rfl,hcd,hY⟩
  ·have ei:i=ds.length:=by lia
   subst ei;obtain⟨_,no⟩:=yl ds.length G' H' sr4.en.gg sr4.yt;rw[o7]at hcd;cases hcd;rw[gc]at hY;subst hY;refine jD (T.done Y rfl rfl rfl hc ds.length [] s4 σ' H' (fun _ _=>False) I4 (stat fr4) Ju (no (bj _))) fun r s5 fV=>?_;obtain⟨hr,I5⟩:=fV;subst hr;obtain⟨m,hm,_⟩:=I5.loc;have ne:∀b o,(s2.heap.push { cls:=.type "list",data:=.seq ([]:List aa).toArray }).get? b=some o->b≠C:=fun b o e z=>by have:=bg e;rw[hC,z]at this;exact f9 _ this
   have U:=I5.base;have fC0:H' C=none:=I5.free;have IX:∀h',et C s5.heap h'->Inv X pins σ H' { s5 with heap:=h' }:=fun h' hs'=>by
    refine I3.call' (ch:=fp) (s':={ s5 with heap:=h' }) I5.os ⟨fun b o e n hb hx=>?_,fun b o e n hb hx=>?_,U.free,fun b o e hx=>?_,U.tups,U.CV,U.GC⟩ (fun b o e=>?_) I5.bare fun b hb=>?_
    ·exact(hs'.2 b (ne b o e)).trans (U.keep b o e n hb hx)
    ·obtain⟨sl,q⟩:=U.slot b o e n hb hx;exact⟨sl,(hs'.2 b (ne b o e)).trans q⟩
    ·obtain⟨o',q⟩:=U.there b o e hx;exact⟨o',(hs'.2 b (ne b o e)).trans q⟩
    ·have fC:H' C=none:=I5.free;refine(I5.hok b o e).stay (fun c' u' hc' q=>(hs'.2 c' ?_).trans q) (fun _ q=>q) (fun _ _ q=>q) fun _ _ q=>q;rintro rfl;rcases hc' with rfl|hc'
     ·rw[fC]at e;cases e
     ·rw[fC]at hc';cases hc'
    ·obtain⟨_,g2,_,g4,g5,g6⟩:=f2 b hb;exact⟨g4,g2,g5,g6⟩
   refine hQ D' C H' (upd G' D' (.lst yvs)) s5 _ ?_ ?_ ⟨m,hm⟩ (I3.Qu (Nat.le_of_eq hC) fC0) IX
   ·have gg:Same G' (upd G' D' (.lst yvs)):=fun b o z=>by rw[aZ (aY z hG4)];exact z
    refine⟨(x2.gg.trans sr4.en.gg).trans gg,x2.hh.trans sr4.en.hh,fun b o z=>?_,fun b xs z=>?_,fun b o z w=>?_⟩
    ·by_cases e:b=D'
     ·subst e;rw[bA]at z;cases z;exact hD4
     ·rw[aZ e]at z;exact sr4.en.gh b o z
    ·by_cases e:b=D'
     ·subst e;rw[hD4]at z;cases z
     ·rw[aZ e];exact sr4.en.tp b xs z
    ·have z2:=x2.hh b o z;rw[aZ (aY z2 hD2)];exact sr4.en.nw b o z2 (x2.nw b o z w)
   ·have gg:Same G' (upd G' D' (.lst yvs)):=fun b o z=>by rw[aZ (aY z hG4)];exact z
    exact aW.mpr ⟨D',yvs,rfl,.of bA,ry4.mono gg⟩
 have first:∀tk,Jn ds.length { s2 with heap:=h₁,toks:=tk }:=fun tk=>by have IY':Inv Y [] (rT nt caps σ) (upd H2 s2.heap.objs.size (.lst [])) { s2 with heap:=h₁,toks:=tk }:=IY.tok tk;refine⟨0,eH nt caps ρ,rT nt caps σ,upd H2 D' (.lst []),G2,[],[],YS,IY',T.keep _ _ _ st2 fun b hb o e=>hk b o (b0 _ e),fun b hb=>(alD b hb).1.1,srY,qp,bA,sr2.en.gh.free hD2,bG.mpr rfl,d7 _,rfl,by simpa using hYS,rfl⟩
 exact codeAny_compStart_list (loop _ _ (first _)) (T.self _ 0 _ _ _ (T.keep _ _ _ st2 fun b hb o e=>hk b o (b0 _ e)) (loop _ _ (first _)))
theorem afE{elt:ag}{ifs:List ag}{sc:Scope}{pos:Pos}{N:List Str}{nt:Nat}{caps:List Nat}{h:Tg}{ft:au->Rs Bool}{fe:au->Rs D}{fi:au->Rs (List D)}
  (c:vh X sc N nt caps) (hc:X.calm=true) (hnames:∀y∈sc.names,y.2=.local->sc.names.lookup y.1=some .local) (hi:SI X B W tg iter fi) (hno:qm h)
  (ht:∀s₀ H₀ C ex pins B',SG (jH X N s₀ H₀ sc (fJ sc X.env) C ex pins) B' tg h)
  (hif:(ifs=[]/\ft=fun _=>.ok true)∨∃c,ifs=[c]/\∀s₀ H₀ C ex pins B',ST (jH X N s₀ H₀ sc (fJ sc X.env) C ex pins) B' WF c ft)
  (he:∀s₀ H₀ C ex pins B',SE (jH X N s₀ H₀ sc (fJ sc X.env) C ex pins) B' WF elt fe)
  (hs:∀x,fw iter X.env x=pure x:=by intro _;rfl) :
  SE X B W (.ListComp elt [⟨tg,iter,ifs,0⟩] sc pos) (dG h ft fe nt caps fi):=by
 intro pins s σ H Q I hw;obtain⟨ρ,G,sr,p⟩:=hw;rw[eval_ListComp];refine Jt c hc hnames hi hno ht hif he hs I sr ?_;cases e:dG h ft fe nt caps fi ρ with
 |ok d =>
  rw[e]at p;intro D' C H' G' s5 fl x r ⟨m,hm⟩ _ IX;exact⟨m,hm,fun h' hs'=>⟨.ref D',H',IX h' hs',rfl,p _ _ _ x r⟩⟩
 |ex c n=>rw[e]at p;exact p
 |no=>rw[e]at p;exact p
theorem Dw{i:Nat}{y:Str}{py spos:Pos}{elt:ag}{ifs:List ag}{sc:Scope}{pos:Pos}{N:List Str}{nt:Nat}{caps:List Nat}{h:Tg}{ft:au->Rs Bool}{fe:au->Rs D}{fi:au->Rs (List D)}
  (hN:X.N.Nodup) (hi':X.N[i]?=some y) (hx:Kw X.env.scope y)
  (c:vh X sc N nt caps) (hc:X.calm=true) (hnames:∀y∈sc.names,y.2=.local->sc.names.lookup y.1=some .local) (hi:SI X B W tg iter fi) (hno:qm h)
  (ht:∀s₀ H₀ C ex pins B',SG (jH X N s₀ H₀ sc (fJ sc X.env) C ex pins) B' tg h)
  (hif:(ifs=[]/\ft=fun _=>.ok true)∨∃c,ifs=[c]/\∀s₀ H₀ C ex pins B',ST (jH X N s₀ H₀ sc (fJ sc X.env) C ex pins) B' WF c ft)
  (he:∀s₀ H₀ C ex pins B',SE (jH X N s₀ H₀ sc (fJ sc X.env) C ex pins) B' WF elt fe)
  (hs:∀x,fw iter X.env x=pure x) (hsw:d6 (.ListComp elt [⟨tg,iter,ifs,0⟩] sc pos) (some (.Name y py)) spos.line X.env=pure true)
  (hf:X.fn y=true∨X.env.scope.names.lookup y=some .local) :
  SS X B W (.Assign [.Name y py] (.ListComp elt [⟨tg,iter,ifs,0⟩] sc pos) spos) (fun ρ=>oR (dG h ft fe nt caps fi ρ) ρ fun d=>.nx (ρ.set i (.fz d))):=by
 intro pins s σ H De I hw;obtain⟨ρ,G,sr,p⟩:=hw;dsimp only at p;rw[exec_Assign_Name_used _ _ _ _ hsw];refine af (sf (af ?_));show ai _ X.A (do let _ <- comprehension (.ListComp elt [⟨tg,iter,ifs,0⟩] sc pos) sc X.env _ (newList []) _ _ (some (assign (.Name y py) X.env))) _ _ s;refine af (dQ (Jt (QQ:=fun _ s'=>_) c hc hnames hi hno ht hif he hs I sr ?_) (fun _ s' hq=>az (az hq)) fun _ _ e=>e);cases e:dG h ft fe nt caps fi ρ with
 |ok d =>
  rw[e]at p;intro D' C H' G' s5 fl x r ⟨m,hm⟩ fp IX;have I5:Inv X pins σ H' s5:=IX s5.heap (et.refl C s5.heap);refine wpAny_assign_Name (Jd I5 hN hi' hx (show RelV (.ref D') (.ref D') from rfl) (fun s6 I6 ⟨a,hs6,ha⟩=>?_) hf);have hCa:C≠a:=by
   rcases ha with rfl|ha
   ·exact fp.2.1
   ·exact dm (fp.2.2.2.2.1 _ _ ha)
  refine⟨m,hm.sameBut hs6 hCa,fun h' hs'=>?_⟩;exact⟨_,H',I6.turned (t':=s6.toks) (fun b o hb e=>(hs'.2 b hb).trans e) fp.1 fp.2.1 fp.2.2.2.1 fp.2.2.2.2.1 fp.2.2.2.2.2,p _ _ G' ((sr.ext x).set r) x.gg⟩
 |ex c n=>rw[e]at p;exact fun H' G' x=>p σ H' G' (sr.ext x) x.gg
 |no=>rw[e]at p;exact p
end
section
variable{X:Cx}{K:ah}{B:Bs}{W:Wi}{σ:St}{G H:Hp}{ρ:au}{a b:ag}{pos p:Pos}{fa fb:au->Rs D}
def alF(K:ah)(n:Nat):R2:=fun x y H Q=>∃d d',Rep K H d x/\Rep K H d' y/\cO d<=n/\cO d'<=n/\Q (.bl (vQ d d')) H
def ajc(K:ah)(n:Nat):R2:=fun x y H Q=>∃d d',Rep K H d x/\Rep K H d' y/\cO d<=n/\cO d'<=n/\Q (.bl (!vQ d d')) H
theorem Lh{n:Nat}(hu:X.A.units + n < bo):uL X (eR .Eq) (alF X.K n):=by intro pins s σ H x y v u Q I rx ry ⟨d,d',r,r',hd,hd',q⟩;exact aiN I hd hd' hu r r' rx ry X.prog X.w X.xe _ ⟨.bl _,H,I,rfl,q⟩
theorem acu{n:Nat}(hu:X.A.units + n < bo):uL X (eR .NotEq) (ajc X.K n):=by intro pins s σ H x y v u Q I rx ry ⟨d,d',r,r',hd,hd',q⟩;exact abT I hd hd' hu r r' rx ry X.prog X.w X.xe _ ⟨.bl _,H,I,rfl,q⟩
def Vv:D->D->Rs D:=fun x y=>if cO x<=8/\cO y<=8 then .ok (.bl (vQ x y)) else .no
def QM:D->D->Rs D:=fun x y=>if cO x<=8/\cO y<=8 then .ok (.bl (!vQ x y)) else .no
theorem Li:QB K (alF K 8) Vv:=by
 intro B W σ ρ G H x y v u Q s rx ry p;unfold Vv at p;by_cases h:cO x<=8/\cO y<=8
 ·rw[if_pos h]at p;exact⟨x,y,rx.mono s.en.gh,ry.mono s.en.gh,h.1,h.2,Post.ok s p (bK.mpr rfl)⟩
 ·rw[if_neg h]at p;exact p.elim
theorem ajd:QB K (ajc K 8) QM:=by
 intro B W σ ρ G H x y v u Q s rx ry p;unfold QM at p;by_cases h:cO x<=8/\cO y<=8
 ·rw[if_pos h]at p;exact⟨x,y,rx.mono s.en.gh,ry.mono s.en.gh,h.1,h.2,Post.ok s p (bK.mpr rfl)⟩
 ·rw[if_neg h]at p;exact p.elim
theorem gF{k:Nat}(hr:lJ k X.A):X.A.units + 8 < bo:=by have:=hr.un;lia
theorem alG(hu:X.A.units + 8 < bo)(ha:SE X B W a fa)(hb:SE X B W b fb):SE X B W (.Compare a [.Eq] [b] pos) (bZ Vv fa fb):=VN (Lh hu) Li ha hb (qd _)
theorem acv(hu:X.A.units + 8 < bo)(ha:SE X B W a fa)(hb:SE X B W b fb):ST X B W (.Compare a [.Eq] [b] pos) (fT (bZ Vv fa fb)):=KR (Lh hu) Li ha hb (qd _)
theorem YJ(hu:X.A.units + 8 < bo)(ha:SE X B W a fa)(hb:SE X B W b fb):ST X B W (.Compare a [.NotEq] [b] pos) (fT (bZ QM fa fb)):=KR (acu hu) ajd ha hb (qd _)
def gLt:=gI0 fun i j=>D.bl (decide (i < j))
def gLe:=gI0 fun i j=>D.bl (decide (i<=j))
def gGt:=gI0 fun i j=>D.bl (decide (j < i))
def gGe:=gI0 fun i j=>D.bl (decide (j<=i))
theorem alI(ha:SE X B W a fa)(hb:SE X B W b fb):SE X B W (.Compare a [.Lt] [b] pos) (bZ gLt fa fb):=VN aln (Dh fun _ _ _=>bK.mpr rfl) ha hb (qd _)
theorem ahE(ha:SE X B W a fa)(hb:SE X B W b fb):ST X B W (.Compare a [.GtE] [b] pos) (fT (bZ gGe fa fb)):=KR alp (Dh fun _ _ _=>bK.mpr rfl) ha hb (qd _)
inductive Ty where
 |int|bool|str|tuple|list|dict
def Ty.nm:Ty->String
 | .int=>"int"|.bool=>"bool"|.str=>"str"|.tuple=>"tuple"|.list=>"list"|.dict=>"dict"
def isD:D->Ty->Bool
 | .int _,.int=>true
 | .bl _,.bool=>true
 | .bl _,.int=>true
 | .str _,.str=>true
 | .tup _,.tuple=>true
 | .lst _,.list=>true
 |_,_=>false
def tyD:D->String
 | .non=>"NoneType"|.bl _=>"bool"|.int _=>"int"|.str _=>"str"|.tup _=>"tuple"|.lst _=>"list"|.mZ _ _=>""|.je _ _=>""
def isX:D->Bool
 | .mZ _ _=>true
 | .je _ _=>true
 |_=>false
theorem alK(d:D)(t:Ty)(hx:isX d=false):PySem.W.kitOne K (.type (tyD d)) (.type t.nm)=some (isD d t):=by
 cases d <;> first|(cases hx;done)|(cases t <;> kernel_rfl)
theorem aje{pins:List (ab×Obj)}{s:ae}{A:a8}{E Q:aa->ae->Prop}{d:D}{v:V}{u:aa}{t:Ty}(I:Inv X pins σ H s)(hx:isX d=false)(r:Rep X.K H d v)(rv:RelV v u)(h:∀tk,Q (.bool (isD d t)) { s with toks:=tk }) :
  ai (ar X.prog X.w) A (call (.builtin "isinstance") [u,.type t.nm]) Q E s:=by
 have e:=alK (K:=X.K) d t hx;cases d with
 |non=>rw[bR.mp r]at rv;cases rv;exact ls PySem.W.kitx_none I.Vu True.intro e (fun z=>nomatch z) h
 |bl y=>rw[bK.mp r]at rv;cases rv;exact ls PySem.W.kitx_bool I.Vu True.intro e (fun z=>nomatch z) h
 |int i=>rw[aM.mp r]at rv;obtain⟨t,rfl⟩:=rv;exact ls PySem.W.kitx_int I.Vu True.intro e (fun z=>nomatch z) h
 |str i=>rw[bU.mp r]at rv;obtain⟨t,rfl⟩:=rv;exact ls PySem.W.kitx_str I.Vu True.intro e (fun z=>nomatch z) h
 |tup ds =>
  obtain⟨a,vs,rfl,q,_⟩:=bw.mp r;cases rv;obtain⟨_,_,⟨o,h1,h2,_⟩,_⟩:=I.tuple q;exact ls PySem.W.kitx_tuple I.Vu ⟨o,h1,h2⟩ e (fun z=>nomatch z) h
 |lst ds =>
  obtain⟨a,vs,rfl,q,_⟩:=aW.mp r;cases rv;obtain⟨_,_,⟨o,n,h1,h2,_⟩,_⟩:=I.list q;exact ls PySem.W.kitx_list I.Vu ⟨o,h1,h2⟩ e (fun z=>nomatch z) h
 |mZ c n=>cases hx
 |je c n=>cases hx
def aoz(K:ah)(t:Ty):List V->Hp->VK->Prop:=fun xs H Q=>∃v d,xs=[v,.ty t.nm]/\isX d=false/\Rep K H d v/\Q (.bl (isD d t)) H
theorem acw{t:Ty}:iQ X (.builtin "isinstance") (aoz X.K t):=by
 intro pins s σ H xs us Q I r ⟨v,d,e,hx,rd,q⟩;subst e;cases r with
 |cons r1 r2 =>
  cases r2 with
  |cons r3 r4 =>
   cases r4;cases r3;exact aje I hx rd r1 fun tk=>⟨.bl _,H,I.tok tk,rfl,q⟩
def gIs(t:Ty):D->Rs D:=fun d=>if isX d=false then .ok (.bl (isD d t)) else .no
theorem alL{t:Ty}{x:Str}{e:ag}{p1 p2:Pos}{f:au->Rs D}(hm:X.mg "isinstance"=none) (hmt:X.mg x=none) (he:SE X B W e f) (hv:ic x=some (.type t.nm)) (hg:Gl X "isinstance":=by rfl) (hgx:Gl X x:=by rfl)
  (hst:a9 [e,.Name x p2] X.env=[(false,aS e X.env),(false,aS (.Name x p2) X.env)]:=by rfl) (hst2:a9 [.Name x p2] X.env=[(false,aS (.Name x p2) X.env)]:=by rfl) (hn:x≠"__name__":=by decide) (hd:(x == ("__debug__":Str))=false:=by decide) :
  SE X B W (.Call (.Name "isinstance" p1) [e,.Name x p2] [] pos) (fun ρ=>(f ρ).bind (gIs t)):=by
 refine PE.imp (nu (acw (t:=t)) hg hm PyProof.Rows.boot_isinstance (dg he (dg (afm (v:=.ty t.nm) hgx hmt hv rfl hn hd) gP (by rw[hst2];rfl)) (by rw[hst,hst2])) (by decide) (by decide) (by rw[hst,hst2]) (by rw[hst2];rfl)) fun σ H Q h=>?_;obtain⟨ρ,G,s,p⟩:=vW (k:=fun _=>gIs t) h;refine⟨ρ,G,s,p.mono fun v H1 ⟨ρ1,G1,d,s1,r,q⟩=>?_⟩;unfold gIs at q;by_cases hx:isX d=false
 ·rw[if_pos hx]at q;exact⟨v,d,rfl,hx,r.mono s1.en.gh,Post.ok s1 q (bK.mpr rfl)⟩
 ·rw[if_neg hx]at q;exact q.elim
def Dy:List D->Option (List Bool)
 | []=>some []
 | .bl b::ds=>(Dy ds).map (b::·)
 |_=>none
theorem Dz:∀{ds:List D}{vs:List V}{bs:List Bool},bL K G ds vs->Dy ds=some bs->vs=bs.map V.bl
 | [],_,bs,r,e=>by cases e;rw[bG.mp r];rfl
 | .bl b::ds,_,bs,r,e=>by
  obtain⟨v,vs',rfl,r1,r2⟩:=aQ.mp r;simp only[Dy]at e;cases e1:Dy ds with
  |none=>rw[e1]at e;cases e
  |some cs=>rw[e1]at e;cases e;rw[bK.mp r1,Dz r2 e1];rfl
 | .non::_,_,_,_,e=>by cases e
 | .int _::_,_,_,_,e=>by cases e
 | .str _::_,_,_,_,e=>by cases e
 | .tup _::_,_,_,_,e=>by cases e
 | .lst _::_,_,_,_,e=>by cases e
 | .mZ _ _::_,_,_,_,e=>by cases e
 | .je _ _::_,_,_,_,e=>by cases e
theorem DG:∀{bs:List Bool}{us:List aa},Vals (bs.map V.bl) us->us=bs.map aa.bool
 | [],_,.nil=>rfl
 |b::bs,_,.cons r t=>by rw[DG t];cases r;rfl
theorem aat(bs:List Bool):(bu bs.length).all (fun i=>bs.getD i false)=bs.all id:=by
 induction bs with
 |nil=>rfl
 |cons b bs ih =>
  rw[cv,lj,sx,sC,sx,<- ih];simp[o5]
theorem QS{prog:aE}{w:ay}{A:a8}(bs:List Bool):TruthOf prog w A (fun i v=>(bs.map aa.bool).toArray[i]?=some v) fun i=>bs.getD i false:=by
 intro i v s Q E hP hQ;have hP':(bs.map aa.bool)[i]?=some v:=by simpa using hP
 rw[cf]at hP';cases e:bs[i]? with
 |none=>rw[e]at hP';cases hP'
 |some b =>
  rw[e]at hP';cases hP';dsimp only at hQ;rw[eK,e]at hQ;exact kU hQ
theorem aau(hc:X.calm=true):iQ X (.builtin "all") (fun xs H Q=>∃(p:ab) (bs:List Bool),xs=[.ref p]/\rG X.K H p (bs.map V.bl)/\Q (.bl (bs.all id)) H):=by
 intro pins s σ H xs us Q I r ⟨p,bs,e,q,k⟩;subst e;obtain⟨u,rfl,rx⟩:=r.one;cases rx;obtain⟨its,rv,pl,_⟩:=I.list q;have ei:=DG rv;subst ei;refine call_all_walk (oP pl.isList ?_);refine⟨_,_,_,_,_,_,fun i=>bs.getD i false,rfl,nE (by show X.A.handled=none;exact I.ok.hd hc) _ p (bS (by obtain⟨o,_,e,_⟩:=pl;exact bg e)) (bs.map aa.bool).toArray,⟨⟨_,cy _ rfl,rfl,rfl⟩,pl.isList.push _⟩,QS bs,fun h' tk hk=>?_⟩;have e:(bu (bs.map aa.bool).toArray.size).all (fun i=>bs.getD i false)=bs.all id:=by rw[cw,b8];exact aat bs
 rw[e];refine⟨.bl _,H,I.kept (t':=tk) (h':=h') fun b o z=>hk b o ?_ (b0 _ z),rfl,k⟩;intro hb;have:b=s.heap.objs.size:=by simpa using hb
 rw[this]at z;exact absurd (bg z) (f9 _)
def Wa:List D->Rs D
 | [.lst ds]=>match Dy ds with|some bs=>.ok (.bl (bs.all id))|none=>.no
 |_=>.no
theorem ajf:rQ K (fun xs H Q=>∃(p:ab) (bs:List Bool),xs=[.ref p]/\rG K H p (bs.map V.bl)/\Q (.bl (bs.all id)) H) Wa:=by
 intro B W σ ρ G H ds vs Q s r p;unfold Wa at p;split at p
 ·rename_i es;split at p
  ·rename_i bs e;obtain⟨v,vs',rfl,r1,r2⟩:=aQ.mp r;obtain⟨a,us,rfl,q,rr⟩:=aW.mp r1;rw[bG.mp r2];have e2:=Dz rr e;subst e2;exact⟨a,bs,rfl,s.en.gh.seq q,Post.ok s p (bK.mpr rfl)⟩
  ·exact p.elim
 ·exact p.elim
end
theorem Inv.moved{X:Cx}{pins:List (ab×Obj)}{σ:St}{H:Hp}{s:ae}{h':Heap}{t':Nat}(I:Inv X pins σ H s)(ch:List ab)
  (hch:∀b∈ch,X.s₀.heap.get? b=none/\b≠X.env.locals/\(∀x c,X.env.cells.lookup x=some c->c≠b)/\(∀p∈X.pn++pins,p.1≠b)/\H b=none)
  (keep:∀b o,b∉pA X.stack->b∉ch->s.heap.get? b=some o->h'.get? b=some o)
  (slot:∀b o,b∈pA X.stack->s.heap.get? b=some o->∃sl,h'.get? b=some { o with slots:=sl }):Inv X pins σ H { s with heap:=h',toks:=t' }:=by
 have sub:=I.uX;have sup:∀b∈X.fs,b∈pA X.stack:=fun b hb=>by
  rcases I.ok.stk with e|⟨e,hf⟩
  ·rw[e];exact hb
  ·rw[e];unfold pA;rw[kR,hf];exact dt _ hb
 have neL:∀b o,X.s₀.heap.get? b=some o->b≠X.env.locals:=fun b o e=>bS (dP (bg e) I.ok.above);have nch:∀b o,X.s₀.heap.get? b=some o->b∉ch:=fun b o e z=>by rw[(hch b z).1]at e;cases e
 have any:∀b o,b∉ch->s.heap.get? b=some o->∃sl,h'.get? b=some { o with slots:=sl }:=fun b o hc e=>by
  by_cases hb:b∈pA X.stack
  ·exact slot b o hb e
  ·exact⟨o.slots,keep b o hb hc e⟩
 have lch:X.env.locals∉ch:=fun z=>(hch _ z).2.1 rfl;have cch:∀x c,X.env.cells.lookup x=some c->c∉ch:=fun x c e z=>(hch c z).2.2.1 x c e rfl;have cellK:∀x c v,X.env.cells.lookup x=some c->s.heap.IsCell c v->h'.IsCell c v:=fun x c v e ⟨o,ho,hd⟩=>by obtain⟨sl,q⟩:=any c o (cch x c e) ho;exact⟨_,q,hd⟩
 refine⟨I.ok,I.os,I.bare,⟨fun b o e n hb hx=>?_,fun b o e n hb hx=>?_,I.base.free,fun b o e hx=>?_,I.base.tups,I.base.CV,I.base.GC⟩,?_,fun x c e=>?_,I.free,I.rm,fun p hp=>?_,fun b o e=>?_,I.len⟩
 ·exact keep b o (fun z=>(bz.mp (sub b z)).elim (neL b o e) hb) (nch b o e) (I.base.keep b o e n hb hx)
 ·obtain⟨sl,q⟩:=I.base.slot b o e n hb hx;obtain⟨sl',q'⟩:=slot b _ (sup b hb) q;exact⟨sl',q'⟩
 ·obtain⟨o',q⟩:=I.base.there b o e hx;obtain⟨sl,q'⟩:=any b o' (nch b o e) q;exact⟨_,q'⟩
 ·obtain⟨m,⟨o,es,ep,ho,r⟩,hl⟩:=I.loc;obtain⟨sl,q⟩:=any _ o lch ho;refine⟨m,⟨_,es,ep,q,r⟩,fun i x v h1 h2 h3=>?_⟩;obtain⟨u,ru,l⟩:=hl i x v h1 h2 h3;refine⟨u,ru,?_⟩;rcases l with l|⟨k,c,e,z⟩
  ·exact .inl l
  ·exact .inr ⟨k,c,e,cellK x c _ e z⟩
 ·obtain⟨v,z⟩:=I.cell x c e;exact⟨v,cellK x c v e z⟩
 ·obtain⟨e,n,ne,nf,d⟩:=I.pin p hp;exact⟨keep _ _ (fun z=>(bz.mp (sub _ z)).elim ne nf) (fun z=>(hch _ z).2.2.2.1 p hp rfl) e,n,ne,nf,d⟩
 ·have tr:∀c u,H c=some u->c∉pA X.stack/\c∉ch:=fun c u z=>⟨fun w=>(by rw[I.Cj c w]at z;cases z),fun w=>(by rw[(hch c w).2.2.2.2]at z;cases z)⟩
  refine(I.hok b o e).stay (fun c u hc q=>?_) (fun _ q=>q) (fun _ _ q=>q) fun _ _ q=>q;rcases hc with hc|hc
  ·subst hc;exact keep c u (tr c _ e).1 (tr c _ e).2 q
  ·exact keep c u (tr c _ hc).1 (tr c _ hc).2 q
def Tr(h:Heap)(H:Hp)(old:Heap)(av:List ab)(ea:ab)(vs:Array aa):Prop:=∃T oT ts,vs[1]?=some (.ref T)/\T≠ea/\h.get? T=some oT/\oT.data=.fields ts/\ts[3]?=some .none/\H T=none/\old.get? T=none/\T∉av
def Fly(K:ah)(old:Heap)(av:List ab)(ea:ab)(c:Str)(n:Int)(h:Heap)(H:Hp)(tr:Bool):Prop :=
 ∃C oe vs a0,o4 K bX c=some (some (.ref C))/\h.get? ea=some oe/\oe.cls=.ref C/\oe.data=.fields vs/\vs[0]?=some a0/\H ea=none/\old.get? ea=none/\ea∉av/\n=0 /\
  (if tr=true then Tr h H old av ea vs else vs[1]?=some .none)
def Gy(P:aE)(w:ay)(K:ah):CXT:=fun outer H s E e s'=>∃ea c n H',e=.ref ea/\s'.os=s.os/\o9 s'.gens/\Un (pA outer) [] H H' s.heap s'.heap/\yg P w H' s'.heap/\Fly K s.heap [] ea c n s'.heap H' true/\E (Cq c n) none H'
def ahF(X:Cx)(W:Wi):Prop:=∀pins σ H s ea c n tr,Inv X pins σ H s->Fly X.K X.s₀.heap ((X.pn++pins).map (·.1)) ea c n s.heap H tr->W c n σ H->X.xe (.ref ea) s
section
variable{X:Cx}{pins:List (ab×Obj)}{σ:St}{H:Hp}{s:ae}{ea:ab}{c:Str}{n:Int}{tr:Bool}
theorem ajg(I:Inv X pins σ H s){b:ab}{o:Obj}{vs:Array aa}(e:s.heap.get? b=some o)(d:o.data=.fields vs)(hold:X.s₀.heap.get? b=none)(hn:H b=none)(hp:∀p∈X.pn++pins,p.1≠b) :
  X.s₀.heap.get? b=none/\b≠X.env.locals/\(∀x c,X.env.cells.lookup x=some c->c≠b)/\(∀p∈X.pn++pins,p.1≠b)/\H b=none:=by
 refine⟨hold,fun z=>?_,fun x c hc z=>?_,hp,hn⟩
 ·obtain⟨m,⟨o',es,ep,ho,hd,_⟩,_⟩:=I.loc;rw[<- z,e]at ho;cases ho;rw[d]at hd;cases hd
 ·obtain⟨v,o',ho,hd⟩:=I.cell x c hc;rw[z,e]at ho;cases ho;rw[d]at hd;cases hd
theorem Wb{P:aE}{w:ay}{H:Hp}{h:Heap}{a:ab}{o:HO}(x:fD P w H h a o):∃u,h.get? a=some u:=by
 induction o with
 |lst xs=>obtain⟨z,its,n,r,e⟩:=x;exact⟨_,e⟩
 |tup xs=>obtain⟨z,its,r,ob,e,c⟩:=x;exact⟨_,e⟩
 |dK kvs=>obtain⟨z,y,vs,r,ob,es,ep,e,c⟩:=x;exact⟨_,e⟩
 |dT kvs=>obtain⟨z,y,xs,r,ob,es,ep,e,c⟩:=x;exact⟨_,e⟩
 |set S n=>obtain⟨ob,es,ep,t,e,c⟩:=x;exact⟨_,e⟩
 |ins C dx fs=>obtain⟨d,z,ne,e,_⟩:=x;exact⟨_,e⟩
 |own y=>obtain⟨ob,e⟩:=x;exact⟨_,e⟩
 |xd fs=>obtain⟨mA,⟨od,es,ep,e,c⟩,r⟩:=x;exact⟨_,e⟩
 |rng lo hi=>obtain⟨t,u,v,e⟩:=x;exact⟨_,e⟩
 |CT ob u ih=>obtain⟨e,q⟩:=x;exact⟨_,e⟩
 |tbl ps=>exact⟨_,(show h.get? a=some { cls:=.none,data:=.fields ps } from x)⟩
 |tab q=>obtain⟨_,e,_⟩:=x;exact⟨_,e⟩
 |Qo q=>obtain⟨_,_,_,e,_⟩:=x;exact⟨_,e⟩
 |met f y=>exact⟨_,(show h.get? a=some (oD (.ref f) (.ref y)) from x)⟩
 |ext φ=>obtain⟨p,⟨o,e⟩,st⟩:=x;exact⟨_,e⟩
theorem aav(I:Inv X pins σ H s){ch:List ab}{h':Heap}{t':Nat}(hch:∀b∈ch,∃o vs,s.heap.get? b=some o/\o.data=.fields vs/\X.s₀.heap.get? b=none/\H b=none/\b∉(X.pn++pins).map (·.1))
  (st:(i9 s.heap (pA X.stack++ch)).StaysIn h') (up:s.heap.UpToSlots h'):Inv X pins σ H { s with heap:=h',toks:=t' }:=by
 refine Inv.moved I ch (fun b hb=>?_) (fun b o h1 h2 e=>st b o (r_ _ e (by rw[dq];exact fun z=>z.elim h1 h2))) (fun b o hb e=>?_)
 ·obtain⟨o,vs,e,d,h1,h2,h3⟩:=hch b hb;exact ajg I e d h1 h2 fun p hp z=>h3 (c8.mpr ⟨p,hp,z⟩)
 ·obtain⟨_,o',ho,hnf⟩:=I.stack.mem hb;rw[e]at ho;cases ho;exact up b o e hnf
theorem afF(I:Inv X pins σ H s)(hex:X.ex=[]){ch:List ab}{h':Heap}{T:ab}{oT:Obj}{ts:Array aa}(hch:∀b∈ch,∃o vs,s.heap.get? b=some o/\o.data=.fields vs/\X.s₀.heap.get? b=none/\H b=none/\b∉(X.pn++pins).map (·.1))
  (up:s.heap.UpToSlots h') (hT:h'.get? T=some oT) (dT:oT.data=.fields ts) (hn:(i9 s.heap (pA X.stack++ch)).get? T=none) :
  H T=none/\X.s₀.heap.get? T=none/\T∉(X.pn++pins).map (·.1):=by
 by_cases hc:T∈ch
 ·obtain⟨o,vs,e,d,h1,h2,h3⟩:=hch T hc;exact⟨h2,h1,h3⟩
 have hf:T∉pA X.stack:=fun z=>by obtain⟨_,o',ho,hnf⟩:=I.stack.mem z;obtain⟨sl,q⟩:=up T o' ho hnf;rw[hT]at q;cases q;exact hnf ts dT
 have hs:s.heap.get? T=none:=by
  cases e:s.heap.get? T with
  |none=>rfl
  |some o=>rw[r_ _ e (by rw[dq];exact fun z=>z.elim hf hc)]at hn;cases hn
 refine⟨?_,?_,fun z=>?_⟩
 ·cases e:H T with
  |none=>rfl
  |some u =>
   obtain⟨o,z⟩:=Wb (I.hok T u e);rw[hs]at z;cases z
 ·cases e:X.s₀.heap.get? T with
  |none=>rfl
  |some o =>
   obtain⟨o',q⟩:=I.base.there T o e (by rw[hex];simp);rw[hs]at q;cases q
 ·obtain⟨p,hp,e⟩:=c8.mp z;have:=(I.pin p hp).1;rw[e,hs]at this;cases this
end
section
variable{X:Cx}{pins:List (ab×Obj)}{σ:St}{H:Hp}{s:ae}{ea:ab}{c:Str}{n:Int}{tr:Bool}
theorem ajh(I:Inv X pins σ H s)(F:Fly X.K X.s₀.heap ((X.pn++pins).map (·.1)) ea c n s.heap H tr) :
  ∃ch:List ab,ea∈ch/\(∀b∈ch,∃o vs,s.heap.get? b=some o/\o.data=.fields vs/\X.s₀.heap.get? b=none/\H b=none/\b∉(X.pn++pins).map (·.1)) /\
   ∃C oe vs a0,o4 X.K bX c=some (some (.ref C))/\s.heap.get? ea=some oe/\oe.cls=.ref C/\oe.data=.fields vs/\vs[0]?=some a0/\n=0/\X.s₀.heap.get? ea=none/\H ea=none/\ea∉(X.pn++pins).map (·.1) /\
    (if tr=true then ∃T oT ts,vs[1]?=some (.ref T)/\T∈ch/\T≠ea/\s.heap.get? T=some oT/\oT.data=.fields ts/\ts[3]?=some .none else vs[1]?=some .none):=by
 obtain⟨C,oe,vs,a0,h1,h2,h3,h4,h5,h6,h7,h8,h9,h10⟩:=F;cases tr with
 |false =>
  refine⟨[ea],by simp,fun b hb=>?_,C,oe,vs,a0,h1,h2,h3,h4,h5,h9,h7,h6,h8,h10⟩;obtain rfl:b=ea:=by simpa using hb
  exact⟨oe,vs,h2,h4,h7,h6,h8⟩
 |true =>
  rw[if_pos rfl]at h10;obtain⟨T,oT,ts,t1,t2,t3,t4,t5,t6,t7,t8⟩:=h10;refine⟨[ea,T],by simp,fun b hb=>?_,C,oe,vs,a0,h1,h2,h3,h4,h5,h9,h7,h6,h8,?_⟩
  ·rcases bz.mp hb with rfl|hb
   ·exact⟨oe,vs,h2,h4,h7,h6,h8⟩
   ·obtain rfl:b=T:=by simpa using hb
    exact⟨oT,ts,t3,t4,t7,t6,t8⟩
  ·rw[if_pos rfl];exact⟨T,oT,ts,t1,by simp,t2,t3,t4,t5⟩
theorem afG{M:Model}{Q:Unit->ae->Prop}{E:aa->ae->Prop}{outer:List Env}{L:ab}(hst:X.stack=X.env::outer)(hf:X.env.frame=some L)(hex:X.ex=[])(I:Inv X pins σ H s)(F:Fly X.K X.s₀.heap ((X.pn++pins).map (·.1)) ea c n s.heap H tr)
  (hQ:∀h',Inv X pins σ H { s with heap:=h' }->Fly X.K X.s₀.heap ((X.pn++pins).map (·.1)) ea c n h' H true->Q () { s with heap:=h' }):ai M X.A (leaving X.env (.ref ea)) Q E s:=by
 obtain⟨ch,he,hch,C,oe,vs,a0,h1,h2,h3,h4,h5,h9,h7,h6,h8,h10⟩:=ajh I F;have hfr:X.A.frames=some (X.env::outer):=by rw[<- hst];exact I.ok.frames
 have hl:s.heap.FunFrames (i9 s.heap (pA X.stack++ch)) (X.env::outer):=by have:=PySem.W.funFrames_hide (as:=pA X.stack++ch) I.stack fun env he b hb=>kT _ (iX.mpr ⟨env,he,hb⟩);rw[hst]at this ⊢;exact this
 have hkb:(i9 s.heap (pA X.stack++ch)).StaysIn s.heap:=fun b o e=>PySem.W.of_hideAll _ e;have hn:∀b∈ch,(i9 s.heap (pA X.stack++ch)).get? b=none:=fun b hb=>PySem.W.hideAll_none _ (eA _ hb);have gD:∀h',(i9 s.heap (pA X.stack++ch)).StaysIn h'->h'.TracedW (i9 s.heap (pA X.stack++ch)) ea oe.cls a0->s.heap.UpToSlots h'->Q () { s with heap:=h' }:=fun h' k1 k2 k3=>by have I':=aav (t':=s.toks) I hch k1 k3;obtain⟨oe',vs',T,oT,ts,e1,⟨e2,e3⟩,e4,e5,e6,e7,e8,e9,e10⟩:=k2;obtain⟨n1,n2,n3⟩:=afF I hex hch k3 e8 e9 e6;refine hQ h' I' ⟨C,oe',vs',a0,h1,e1,e2.trans h3,e4,e3,h6,h7,h8,h9,?_⟩;rw[if_pos rfl];exact⟨T,oT,ts,e5,e7,e8,e9,e10,n1,n2,n3⟩
 cases tr with
 |false =>
  rw[if_neg (by decide)]at h10;exact wpAny_leaving_firstW hfr hl hf h2 hkb (hn _ he) h4 h10 h5 fun h' ⟨k1,_,k2,k3⟩=>gD h' k1 k2 k3
 |true =>
  rw[if_pos rfl]at h10;obtain⟨T,oT,ts,t1,t0,t2,t3,t4,t5⟩:=h10;exact wpAny_leaves_onW hfr hf ⟨hkb,hn _ he,hl,oe,vs,T,oT,ts,h2,⟨rfl,h5⟩,h4,t1,hn _ t0,t2,t3,t4,t5⟩ fun h' ⟨k1,_,_,k2⟩ k3=>gD h' k1 k2 k3
end
section
variable{P:aE}{w:ay}{K:ah}{mg:Str->Option aa}{base:Heap}{x qual:Str}{st:be}{f:ab}{fd:b9}{N ps:List Str}{k:Nat}
theorem pC{scope:Scope}{cdv:aa}{A:a8}{outer:List Env}{s:ae}{H:Hp}{E:XK}:ahF (rM (Gy P w K) P w K mg base N qual scope f cdv A outer s H E) (fun c n _ H'=>E (Cq c n) none H'):=by intro pins σ H1 s1 ea c n tr I F w1;refine afG (L:=s.heap.objs.size) (outer:=outer) rfl rfl rfl I F fun h' I' F'=>?_;obtain⟨C,oe,vs,a0,h1,h2,h3,h4,h5,h6,h7,h8,h9,h10⟩:=F';refine⟨ea,c,n,H1,rfl,I'.os,I'.bare,I'.base,I'.hok,⟨C,oe,vs,a0,h1,h2,h3,h4,h5,h6,h7,by simp,h9,?_⟩,w1⟩;rw[if_pos rfl]at h10 ⊢;obtain⟨T,oT,ts,t1,t2,t3,t4,t5,t6,t7,t8⟩:=h10;exact⟨T,oT,ts,t1,t2,t3,t4,t5,t6,t7,by simp⟩
end
theorem afH{a b:Int}(h:zig a=zig b):a=b:=by unfold zig at h;split at h <;> split at h <;> lia
theorem afI{c c':Str}{n n':Int}(h:Cq c n=Cq c' n'):c=c'/\n=n':=by unfold Cq at h;injection h with h1 h2;exact⟨h1,afH h2⟩
def wA(X:Cx)(W:Wi):Prop:=∀(pins:List (ab×Obj)) (σ:St) (H:Hp) (s:ae) (e:aa) (s':ae),Inv X pins σ H s ->
 Gy X.prog X.w X.K X.stack H s (fun v _ H'=>∃c n,v=Cq c n/\W c n σ H') e s'->X.xe e s'
theorem cW{X:Cx}:wA X WF:=fun pins σ H s e s' I ⟨ea,c,n,H',_,_,_,_,_,_,_,_,_,w⟩=>w.elim
theorem rW{X:Cx}{W:Wi}(hp:ahF X W)(hex:X.ex=[]):wA X W:=by
 intro pins σ H s e s' I ⟨ea,c,n,H',e1,os,bare,un,hok,F,c0,n0,e2,w⟩;subst e1;obtain⟨rfl,rfl⟩:=afI e2;have I':Inv X pins σ H' s':=I.call' (ch:=[]) os un hok bare (fun b z=>absurd z (by simp));obtain⟨C,oe,vs,a0,h1,h2,h3,h4,h5,h6,h7,h8,h9,h10⟩:=F;have old:∀b,s.heap.get? b=none->X.s₀.heap.get? b=none:=fun b hb=>by
  cases q:X.s₀.heap.get? b with
  |none=>rfl
  |some o =>
   obtain⟨o',z⟩:=I.base.there b o q (by rw[hex];simp);rw[hb]at z;cases z
 have alN:∀b,s.heap.get? b=none->b∉(X.pn++pins).map (·.1):=fun b hb z=>by obtain⟨p,hp,e⟩:=c8.mp z;have:=(I.pin p hp).1;rw[e,hb]at this;cases this
 refine hp pins σ H' s' ea c n true I' ⟨C,oe,vs,a0,h1,h2,h3,h4,h5,h6,old _ h7,alN _ h7,h9,?_⟩ w;rw[if_pos rfl]at h10 ⊢;obtain⟨T,oT,ts,t1,t2,t3,t4,t5,t6,t7,t8⟩:=h10;exact⟨T,oT,ts,t1,t2,t3,t4,t5,t6,old _ t7,alN _ t7⟩
section
variable{P:aE}{w:ay}{K:ah}{mg:Str->Option aa}{base:Heap}{x qual:Str}{st:be}{f:ab}{fd:b9}{N ps:List Str}{k:Nat}
theorem alO{g:au->Ou}(F:vP K x qual st f fd)(S:bQ N ps (aD st))
  (hb:∀(cdv:aa) (A:a8) (outer:List Env) (s:ae) (H:Hp) (E:XK) (B:Bs),lJ k (A.deeper (lz qual (aD st) s.heap.objs.size f cdv)) ->
   uM (rM (Gy P w K) P w K mg base N qual (aD st) f cdv A outer s H E) B (fun c n _ H'=>E (Cq c n) none H') (bC st) g) :
  GF P w K mg base (Gy P w K) (k + 1) f fd ps (spV K ps.length fun ds=>gD (g (bF N ds))):=by
 obtain⟨oc,od,kV,doc,pm,an,cdv,ct,osl,rfl,lk,hcd⟩:=F.ex;refine Yw lk hcd S (fun vs H Q E h=>h.1) fun A outer s H vs Q E hr h=>?_;obtain⟨_,G,ds,e,r,h⟩:=h;dsimp only at h;exact⟨_,hb cdv A outer s H E ⟨G,H,0⟩ hr,bF N ds,G,Dv e r,QK (B:=⟨G,H,0⟩) h⟩
end
def bH(n:Nat)(g:List D->Rs D):List D->Rs D:=fun ds=>if ds.length=n then g ds else .no
section
variable{X:Cx}{B:Bs}{W:Wi}
theorem afJ{x:Str}{p pos:Pos}{e:ag}{es:List ag}{fs:au->Rs (List D)}{f:ab}{fd:b9}{ps:List Str}{k n:Nat}{g:List D->Rs D}(F:GF X.prog X.w X.K X.mg X.base (Gy X.prog X.w X.K) k f fd ps (spV X.K n g))(hr:lJ k X.A)(hg:Gl X x)(hm:X.mg x=some (.ref f))(hk:f_ X.K (.ref f)=true)(hb:Binds X.K fd ps [])
  (hx:wA X W) (ha:SA X B W (e::es) fs) (hdb:(x == ("__debug__":Str))=false:=by decide) (he:a9 (e::es) X.env=(false,aS e X.env)::a9 es X.env:=by rfl) (hpl:(c6 pos (a9 es X.env)).any (·.1)=false:=by rfl) :
  SE X B W (.Call (.Name x p) (e::es) [] pos) (fA fs (bH n g)):=by
 intro pins s σ H Q I h;refine m_ (Yq I hg hm ?_ hdb);have h2:tAF X.K B W fs σ H fun vs H1=>spV X.K n g vs H1 Q fun v _ H'=>∃c n,v=Cq c n/\W c n σ H':=by
  obtain⟨ρ,G,s,p⟩:=h;refine⟨ρ,G,s,?_⟩;unfold fA at p;cases e:fs ρ with
  |ex c n=>rw[e]at p;exact p
  |no=>rw[e]at p;exact p
  |ok ds =>
   rw[e]at p;intro vs H1 G1 x r;have p:=Post.ext x p;unfold bH at p;dsimp only[Rs.bind]at p;by_cases hl:ds.length=n
   ·rw[if_pos hl]at p;refine⟨by rw[<- r.length];exact hl,G1,ds,(s.ext x).ex0,r,?_⟩;cases e1:g ds with
    |ok d=>rw[e1]at p;exact p
    |ex c n=>rw[e1]at p;exact fun H' G' y=>⟨c,n,rfl,p H' G' y⟩
    |no=>rw[e1]at p;exact p.elim
   ·rw[if_neg hl]at p;exact p.elim
 refine PySem.W.callWith_K (h₀:=X.base) I.ok.mod.kin hk (jD (ha pos pins s σ H _ I h2) fun us s1 ⟨vs,H1,I1,r,q⟩=>⟨I1.Vu,?_⟩) he hpl;have hl:(us++[]).length=ps.length:=by rw[gc,<- r.length];exact F.len _ _ _ _ q
 have hbb:=hb s1 us I1.Vu hl;rw[gc]at hbb;refine o_ (lh (F.run X.A X.stack s1 H1 ⟨us,[]⟩ us vs Q _ hr I1.env0 hbb r q) fun r s' hq=>?_);cases r with
 |error e=>exact hx pins σ H1 s1 e s' I1 hq
 |ok fl =>
  cases fl with
  |ret u=>exact I1.after hq
  |next=>exact fE hq
  |brk=>exact fE hq
  |cont=>exact fE hq
end
section
variable{X:Cx}{pins:List (ab×Obj)}{σ:St}{H:Hp}{s:ae}{ea:ab}{c:Str}{n:Int}{tr:Bool}
end
section
variable{X:Cx}{pins:List (ab×Obj)}{σ:St}{H:Hp}{s:ae}{ea:ab}
end
end Vl
namespace Vl
open PySem PySem.Spec PySem.Calls PySem.W L2
section
variable{K:ah}
end
section
variable{X:Cx}{B:Bs}{W:Wi}
end
def Ae:au->Ou:=fun ρ=>.nx ρ
def cB(g k:au->Ou):au->Ou:=fun ρ=>aci (g ρ) k
def fM(f:au->Rs D):au->Ou:=fun ρ=>oR (f ρ) ρ .rt
def aoB(f:au->Rs D):au->Ou:=fun ρ=>oR (f ρ) ρ fun _=>.nx ρ
def yw(c:au->Rs Bool)(a b:au->Ou):au->Ou:=fun ρ=>oR (c ρ) ρ fun x=>if x=true then a ρ else b ρ
def acz(f:au->Rs D)(h:Tg):au->Ou:=fun ρ=>oR (f ρ) ρ fun d=>oO (h d ρ)
def mj(i:Nat)(f:au->Rs D):au->Ou:=fun ρ=>oR (f ρ) ρ fun d=>.nx (ρ.set i (.fz d))
def aoC(x:Str)(fs:au->Rs (List D)):au->Ou:=fun ρ=>oR (fs ρ) ρ fun ds=>if ds.length<=1000 then .ex x 0 ρ else .no
def rY(g:au->Ou):au->Ou:=fun ρ=>acp (g ρ)
def DK(f:au->Rs D):au->Rs D:=fun ρ=>(f ρ).bind afx
def fB(f:au->Rs D)(g:D->Rs D):au->Rs D:=fun ρ=>(f ρ).bind g
def fL(f:au->Rs D)(g:D->Rs (List D)):au->Rs (List D):=fun ρ=>(f ρ).bind g
section
variable{X:Cx}{B:Bs}{W:Wi}
theorem iI:uM X B W [] Ae:=aiS
theorem aX{st:be}{rest:List be}{g k:au->Ou}(h1:SS X B W st g)(h2:uM X B W rest k):uM X B W (st::rest) (cB g k):=afz h1 h2
theorem bD{st:be}{g:au->Ou}(h1:SS X B W st g):uM X B W [st] g:=aiT h1
theorem cP{e:ag}{pos}{f:au->Rs D}(h:SE X B W e f):SS X B W (.Return (some e) pos) (fM f):=aiU h
theorem nM{c:ag}{a b:List be}{pos:Pos}{fc:au->Rs Bool}{ga gb:au->Ou}(hc:ST X B W c fc)(ha:uM X B W a ga)(hb:uM X B W b gb):SS X B W (.If c a b pos) (yw fc ga gb):=alA hc ha hb
theorem aji{tg e:ag}{pos:Pos}{f:au->Rs D}{h:Tg}(he:SE X B W e f)(hg:SG X B tg h)(hs:ke [tg] e pos.line X.env=pure false:=by rfl)(hw:kg [tg] e X.env=pure none:=by rfl)
  (h1:(dy [tg] X.env).map (·.2)=[assign tg X.env]:=by rfl):SS X B W (.Assign [tg] e pos) (acz f h):=aiV he hg hs hw h1
theorem jU(i:Nat){x:Str}{e:ag}{pos pos':Pos}{f:au->Rs D}(hN:X.N.Nodup)(he:SE X B W e f)(hi:X.N[i]?=some x:=by rfl)(hx:Kw X.env.scope x:=by first|exact Or.inl rfl|exact Or.inr rfl)(hs:d6 e (some (.Name x pos')) pos.line X.env=pure false:=by rfl)(hf:X.fn x=true∨X.env.scope.names.lookup x=some .local:=by first|exact .inl rfl|exact .inr rfl|assumption) :
  SS X B W (.Assign [.Name x pos'] e pos) (mj i f):=aiW hN hi hx he hs hf
theorem jV{st:be}{g:au->Ou}(h:SS X.nox B WF st g):SS X B W st (rY g):=aiZ h
theorem DN{a:ag}{pos:Pos}{fa:au->Rs D}(ha:SE X B W a fa):SE X B W (.UnaryOp .USub a pos) (DK fa):=aiQ ha
theorem rg(i:Nat){x:Str}{pos:Pos}(hN:X.N.Nodup)(hi:X.N[i]?=some x:=by rfl)(hx:Kw X.env.scope x:=by first|exact Or.inl rfl|exact Or.inr rfl)(hf:X.fn x=true∨X.env.scope.names.lookup x=some .local:=by first|exact .inl rfl|exact .inr rfl|assumption):SG X B (.Name x pos) (bh i) :=
 afA hN hi hx hf
theorem Jv{t:Ty}{x:Str}{e:ag}{p1 p2 pos:Pos}{f:au->Rs D}(hm:X.mg "isinstance"=none) (hmt:X.mg x=none) (he:SE X B W e f) (hv:ic x=some (.type t.nm)) (hg:Gl X "isinstance":=by rfl) (hgx:Gl X x:=by rfl)
  (hst:a9 [e,.Name x p2] X.env=[(false,aS e X.env),(false,aS (.Name x p2) X.env)]:=by rfl) (hst2:a9 [.Name x p2] X.env=[(false,aS (.Name x p2) X.env)]:=by rfl) (hn:x≠"__name__":=by decide) (hd:(x == ("__debug__":Str))=false:=by decide) :
  SE X B W (.Call (.Name "isinstance" p1) [e,.Name x p2] [] pos) (fB f (gIs t)):=alL hm hmt he hv hg hgx hst hst2 hn hd
theorem YK{tg iter:ag}{f:au->Rs D}(hi:SE X B W iter f):SI X B W tg iter (fL f asL):=afC hi
theorem yC{tg iter:ag}{f:au->Rs D}(hi:SE X B W iter f):SI X B W tg iter (fL f VR):=ajb hi
theorem ajj{e:ag}{p pos:Pos}{fa:au->Rs D}(hc:X.calm=true) (hm:X.mg "all"=none) (ha:SE X B W e fa) (hg:Gl X "all":=by rfl) (he:a9 [e] X.env=[(false,aS e X.env)]:=by rfl):SE X B W (.Call (.Name "all" p) [e] [] pos) (fA (ao fa aR) Wa) :=
 wg (aau hc) ajf hg hm rfl (ak ha aK he) (by decide) (by decide) he rfl
theorem aaw{e e':ag}{p pos:Pos}{fa fb:au->Rs D}(hm:X.mg "divmod"=none) (ha:SE X B W e fa) (hb:SE X B W e' fb) (hg:Gl X "divmod":=by rfl) (he:a9 [e,e'] X.env=[(false,aS e X.env),(false,aS e' X.env)]:=by rfl) (he':a9 [e'] X.env=[(false,aS e' X.env)]:=by rfl) :
  SE X B W (.Call (.Name "divmod" p) [e,e'] [] pos) (fA (ao fa (ao fb aR)) gDm) :=
 wg KZ alz hg hm rfl (ak ha (ak hb aK he') (by rw[he,he'])) (by decide) (by decide) (by rw[he,he']) (by rw[he'];rfl)
end
def mO(P:aE)(w:ay)(K:ah)(mg:Str->Option aa)(base:Heap)(x:Str)(k n:Nat)(v:List D->Rs D):Prop :=
 ∃f fd ps,GF P w K mg base (Gy P w K) k f fd ps (spV K n v)/\mg x=some (.ref f)/\f_ K (.ref f)=true/\Binds K fd ps []
theorem gQ{P:aE}{w:ay}{K:ah}{mg:Str->Option aa}{base:Heap}{x:Str}{st:be}{f:ab}{fd:b9}{N ps:List Str}{k:Nat}{g:au->Ou}(F:vP K x x st f fd)(hm:mg x=some (.ref f))(S:bQ N ps (aD st))
  (hbi:∀(kV doc pm:aa) (an:Option ab) (cdv ct:aa) (us:List aa),us.length=ps.length->bindArgs (eJ x x (bJ st) (bC st) (aD st) .none kV doc pm an cdv ct) ⟨us,[]⟩=pure (ps.zip us))
  (hb:∀(cdv:aa) (A:a8) (outer:List Env) (s:ae) (H:Hp) (E:XK) (B:Bs),lJ k (A.deeper (lz x (aD st) s.heap.objs.size f cdv)) ->
   wA (rM (Gy P w K) P w K mg base N x (aD st) f cdv A outer s H E) (fun c n _ H'=>E (Cq c n) none H') ->
   uM (rM (Gy P w K) P w K mg base N x (aD st) f cdv A outer s H E) B (fun c n _ H'=>E (Cq c n) none H') (bC st) g) :
  mO P w K mg base x (k + 1) ps.length (fun ds=>gD (g (bF N ds))) :=
 ⟨f,fd,ps,alO F S fun cdv A outer s H E B hr=>hb cdv A outer s H E B hr (rW pC rfl),hm,F.kp,F.binds hbi⟩
section
variable{X:Cx}{B:Bs}{W:Wi}
theorem bO{x:Str}{p pos:Pos}{e:ag}{es:List ag}{fs:au->Rs (List D)}{k n:Nat}{g:List D->Rs D}(O:mO X.prog X.w X.K X.mg X.base x k n g) (hr:lJ k X.A) (hx:wA X W) (ha:SA X B W (e::es) fs) (hg:Gl X x:=by rfl) (hdb:(x == ("__debug__":Str))=false:=by decide)
  (he:a9 (e::es) X.env=(false,aS e X.env)::a9 es X.env:=by rfl) (hpl:(c6 pos (a9 es X.env)).any (·.1)=false:=by rfl):SE X B W (.Call (.Name x p) (e::es) [] pos) (fA fs (bH n g)):=by
 obtain⟨f,fd,ps,F,hm,hk,hb⟩:=O;exact afJ F hr hg hm hk hb hx ha hdb he hpl
end
def ahG(S sc:Scope)(NX N:List Str)(nt:Nat)(caps:List Nat):Bool :=
 decide (sc.kind=.function) && sc.names.all (fun y=>y.2 != .cell) && sc.names.all (fun y=>y.2 != .free || S.names.lookup y.1 == some .cell || S.names.lookup y.1 == some .free) && decide (N.length=nt + caps.length) &&
  (bu caps.length).all fun j=>match caps[j]?,N[nt + j]? with|some i,some x=>NX[i]? == some x && sc.names.lookup x == some .free|_,_=>true
theorem mQ{X:Cx}{sc:Scope}{N:List Str}{nt:Nat}{caps:List Nat}(S:Scope)(NX:List Str)(h:ahG S sc NX N nt caps=true)(hS:X.env.scope=S:=by rfl)(hX:X.N=NX:=by rfl):vh X sc N nt caps:=by
 unfold ahG at h;simp only[ky,decide_eq_true_eq,kz,bne_iff_ne,pd,beq_iff_eq,ne_eq]at h;obtain⟨⟨⟨⟨h1,h2⟩,h3⟩,h4⟩,h5⟩:=h;refine⟨h1,fun y hy=>h2 y hy,fun y hy hf=>?_,h4,fun j i x e1 e2=>?_⟩
 ·have:=h3 y hy;unfold Env.kindOf;rw[hS];rcases this with (h|h)|h
  ·exact absurd hf h
  ·exact .inl h
  ·exact .inr h
 ·have:=h5 j (by rw[ef];exact(di.mp e1).1);rw[e1,e2]at this;simp only[ky,beq_iff_eq]at this;rw[hX];exact this
theorem fZ{i:Nat}:qm (bh i):=by
 intro d ρ ρ' no e j ds q;unfold bh at e;cases e;by_cases c:i=j
 ·subst c;have hl:i < ρ.length:=by have:=(di.mp q).1;simpa using this
  rw[dk hl]at q;cases q;exact fun w=>by cases w
 ·rw[cS c]at q;exact no j ds q
def Cu(h:List D->au->Option au):Prop:=∀ds ρ ρ',QL ρ->h ds ρ=some ρ'->QL ρ'
theorem QT:Cu qj:=fun ds ρ ρ' no e=>by
 cases ds with
 |nil=>cases e;exact no
 |cons _ _=>cases e
theorem uf{h:Tg}{k:List D->au->Option au}(h1:qm h)(h2:Cu k):Cu (cN h k):=fun ds ρ ρ' no e=>by
 cases ds with
 |nil=>cases e
 |cons d ds =>
  simp only[cN]at e;cases e1:h d ρ with
  |none=>rw[e1]at e;cases e
  |some ρ1=>rw[e1]at e;exact h2 ds ρ1 ρ' (h1 d ρ ρ1 no e1) e
theorem QV{n:Nat}{k:List D->au->Option au}(h:Cu k):qm (oH n k):=fun d ρ ρ' no e=>by
 cases d with
 |tup ds =>
  simp only[oH]at e;split at e
  ·exact h ds ρ ρ' no e
  ·cases e
 |_=>cases e
theorem wB{X:Cx}{B:Bs}{W:Wi}{tg iter:ag}{elt:ag}{sc:Scope}{pos:Pos}{N:List Str}{nt:Nat}{caps:List Nat}{h:Tg}{fe:au->Rs D}{fi:au->Rs (List D)}
  (c:vh X sc N nt caps) (hc:X.calm=true) (hnames:sc.names.all (fun y=>y.2 != .local || sc.names.lookup y.1 == some .local)=true) (hi:SI X B W tg iter fi) (hno:qm h)
  (ht:∀s₀ H₀ C ex pins B',SG (jH X N s₀ H₀ sc (fJ sc X.env) C ex pins) B' tg h)
  (he:∀s₀ H₀ C ex pins B',SE (jH X N s₀ H₀ sc (fJ sc X.env) C ex pins) B' WF elt fe)
  (hs:∀x,fw iter X.env x=pure x:=by intro _;rfl) :
  SE X B W (.ListComp elt [⟨tg,iter,[],0⟩] sc pos) (dG h (fun _=>.ok true) fe nt caps fi) :=
 afE c hc (fun y hy hl=>by
  have:=kz.mp hnames y hy;simp only[pd,bne_iff_ne,beq_iff_eq,ne_eq]at this;exact this.elim (fun z=>absurd hl z) id) hi hno ht (.inl ⟨rfl,rfl⟩) he hs
def aoD(i j:Nat)(fs:au->Rs (List D)):au->Ou:=fun ρ=>oR (fs ρ) ρ fun ds=>match ds with
 | [d,e]=>.nx ((ρ.set i (.fz d)).set j (.fz e))
 |_=>.no
section
variable{ρ ρ1:au}{d x y z:D}{f fa fb:au->Rs D}{g k a b:au->Ou}{r:Ou}{ds:List D}{fs:au->Rs (List D)}{c c1 c2:au->Rs Bool}{t u:Bool}{i j:Nat}
theorem bB(h:g ρ=.nx ρ1)(h2:k ρ1=r):cB g k ρ=r:=by unfold cB;rw[h];exact h2
theorem acA(h:g ρ=.rt d):cB g k ρ=.rt d:=by unfold cB;rw[h];rfl
theorem cj:fC d ρ=.ok d:=rfl
theorem aH(h:ρ[i]?=some (.fz d)):aJ i ρ=.ok d:=by unfold aJ;rw[h]
theorem bM{o:D->D->Rs D}{r:Rs D}(h1:fa ρ=.ok x)(h2:fb ρ=.ok y)(h3:o x y=r):bZ o fa fb ρ=r:=by unfold bZ;rw[h1];show(fb ρ).bind _=_;rw[h2];exact h3
theorem QW{n:Int}(h1:fa ρ=.ok (.int n)):DK fa ρ=.ok (.int (-n)):=by unfold DK;rw[h1];rfl
theorem aO:aR ρ=.ok []:=rfl
theorem aq(h1:fa ρ=.ok x)(h2:fs ρ=.ok ds):ao fa fs ρ=.ok (x::ds):=by unfold ao;rw[h1];show(fs ρ).bind _=_;rw[h2];rfl
theorem gj{o:List D->Rs D}{r:Rs D}(h1:fs ρ=.ok ds)(h2:o ds=r):fA fs o ρ=r:=by unfold fA;rw[h1];exact h2
theorem v_b{o:D->Rs D}{r:Rs D}(h1:fa ρ=.ok x)(h2:o x=r):fB fa o ρ=r:=by unfold fB;rw[h1];exact h2
theorem cC{n:Nat}{v:List D->Rs D}{r:Rs D}(hl:ds.length=n)(h:v ds=r):bH n v ds=r:=by unfold bH;rw[if_pos hl];exact h
theorem ahH(hl:ds.length<=1000):dH ds=.ok (.tup ds):=by unfold dH;rw[if_pos hl]
theorem Af(hl:ds.length<=1000):vZ ds=.ok (.lst ds):=by unfold vZ;rw[if_pos hl]
theorem ug(h:fa ρ=.ok (.bl t)):fT fa ρ=.ok t:=by unfold fT;rw[h];rfl
theorem Ag(h:c ρ=.ok t):rO c ρ=.ok (!t):=by unfold rO;rw[h];rfl
theorem yD(h:c1 ρ=.ok false)(h2:c2 ρ=.ok t):fOr c1 c2 ρ=.ok t:=by unfold fOr;rw[h];exact h2
theorem rZ(h:c ρ=.ok true)(h2:a ρ=r):yw c a b ρ=r:=by unfold yw;rw[h];exact h2
theorem jf(h:c ρ=.ok false)(h2:b ρ=r):yw c a b ρ=r:=by unfold yw;rw[h];exact h2
theorem nO(h:fa ρ=.ok x):mj i fa ρ=.nx (ρ.set i (.fz x)):=by unfold mj;rw[h];rfl
theorem lK(h:fa ρ=.ok x):fM fa ρ=.rt x:=by unfold fM;rw[h];rfl
theorem alP{h:Tg}(h1:fa ρ=.ok x)(h2:h x ρ=some ρ1):acz fa h ρ=.nx ρ1:=by unfold acz;rw[h1];show oO (h x ρ)=_;rw[h2];rfl
theorem rH:Ae ρ=.nx ρ:=rfl
theorem pD(h:g ρ=.nx ρ1):rY g ρ=.nx ρ1:=by unfold rY;rw[h];rfl
theorem Wc{h:Tg}{n:Int}{N:Nat}(h1:fa ρ=.ok (.int n))(hb:n < 2 ^ 62)(hN:n=(N:Int))(h2:dD h g ((bu N).map fun(i:Nat)=>.int i) ρ=r):Ds h g fa ρ=r:=by
 have hc:-(2 ^ 62)<=n/\n < 2 ^ 62:=⟨by subst hN;lia,hb⟩
 unfold Ds;rw[h1];simp only[oR];rw[if_pos hc,hN,kA];exact h2
theorem Wd{h:Tg}(h1:fa ρ=.ok (.lst ds))(h2:dD h g ds ρ=r):Jr h g fa ρ=r:=by unfold Jr;rw[h1];exact h2
theorem Wf{h:Tg}(h1:fa ρ=.ok (.tup ds))(h2:dD h g ds ρ=r):Js h g fa ρ=r:=by unfold Js;rw[h1];exact h2
theorem wC{h:Tg}(P:au->Prop):∀{ds:List D}{ρ:au},P ρ->(∀d∈ds,∀ρ,P ρ->∃ρ1 ρ',h d ρ=some ρ1/\g ρ1=.nx ρ'/\P ρ')->∃ρ',dD h g ds ρ=.nx ρ'/\P ρ'
 | [],ρ,p,_=>⟨ρ,rfl,p⟩
 |d::ds,ρ,p,st=>by obtain⟨ρ1,ρ2,e1,e2,p2⟩:=st d (by simp) ρ p;obtain⟨ρ',e,p'⟩:=wC (ds:=ds) P p2 fun d' hd=>st d' (by simp[hd]);refine⟨ρ',?_,p'⟩;simp only[dD,e1,e2];exact e
theorem Lj{h:Tg}{ft:au->Rs Bool}{fe:au->Rs D}{nt:Nat}{caps:List Nat}{fi:au->Rs (List D)}{ys:List D}(h1:fi ρ=.ok ds)(h2:jr h ft fe ds (eH nt caps ρ)=.ok ys)(hl:ys.length<=1000000):dG h ft fe nt caps fi ρ=.ok (.lst ys):=by unfold dG;rw[h1];show Du ((jr h ft fe ds (eH nt caps ρ)).bind _)=_;rw[h2];show Du (if ys.length<=1000000 then _ else _)=_;rw[if_pos hl];rfl
theorem v_l{o:D->Rs (List D)}(h1:fa ρ=.ok x)(h2:o x=.ok ds):fL fa o ρ=.ok ds:=by unfold fL;rw[h1];exact h2
variable{m n:Int}
theorem acB(h:VF m n):jG (.int m) (.int n)=.ok (.int (m * n)):=by simp[jG,gI,h]
theorem QX(h:0 < n):Az (.int m) (.int n)=.ok (.int (m % n)):=by simp[Az,gI,h]
theorem alQ(h:CDB m n):ace (.int m) (.int n)=.ok (.int (m / n)):=by simp[ace,gI,h]
theorem alR(h:abH m n):QH (.int m) (.int n)=.ok (.int (m ^ n.toNat)):=by simp[QH,gI,h]
theorem fO:cT (.int m) (.int n)=.ok (.int (m + n)):=rfl
theorem aax{a b:List D}(h:a.length + b.length<=1000000):cT (.lst a) (.lst b)=.ok (.lst (a++b)):=by simp only[cT];rw[if_pos h]
theorem nP:Vl.lH (.int m) (.int n)=.ok (.int (m - n)):=rfl
theorem aoE(h:CDB m n):gDm [.int m,.int n]=.ok (.tup [.int (m / n),.int (m % n)]):=by simp[gDm,h]
theorem ajl:gLt (.int m) (.int n)=.ok (.bl (decide (m < n))):=rfl
theorem aoF:gLe (.int m) (.int n)=.ok (.bl (decide (m<=n))):=rfl
theorem ajm:gGt (.int m) (.int n)=.ok (.bl (decide (n < m))):=rfl
theorem afK:gGe (.int m) (.int n)=.ok (.bl (decide (n<=m))):=rfl
theorem pF:Vv (.int m) (.int n)=.ok (.bl (decide (m=n))):=by simp[Vv,cO,vQ];rfl
theorem YL:QM (.int m) (.int n)=.ok (.bl (!decide (m=n))):=by simp[QM,cO,vQ];rfl
theorem alS(h1:cO x<=8)(h2:cO y<=8):QM x y=.ok (.bl (!vQ x y)):=by unfold QM;rw[if_pos ⟨h1,h2⟩]
theorem aay(h1:cO x<=8)(e:x=y):QM x y=.ok (.bl false):=by subst e;rw[alS h1 h1,vX];rfl
theorem aoG(h:Cm ds m=some d):fY (.tup ds) (.int m)=.ok d:=by simp[fY,h]
theorem alT(h:Cm ds m=some d):fY (.lst ds) (.int m)=.ok d:=by simp[fY,h]
end
end Vl
namespace Tb
open PySem
def it:Nat->Nat->Nat
 | 0,x=>x
 |m + 1,x=>5 * it m x + 1
theorem acC(m n x:Nat):it (m + n) x=it m (it n x):=by
 induction m with
 |zero=>simp[it]
 |succ m ih=>rw[Nat.succ_add];simp only[it];rw[ih]
theorem ajn(k:Nat):∃w,w % 2=1/\∀y,it (2 ^ k) y=y + 2 ^ k * w * (4 * y + 1):=by
 induction k with
 |zero=>exact⟨1,rfl,fun y=>by simp[it];lia⟩
 |succ k ih =>
  obtain⟨w,hw,h⟩:=ih;refine⟨w * (1 + 2 ^ (k + 1) * w),?_,fun y=>?_⟩
  ·have e:2 ^ (k + 1)=2 * 2 ^ k:=by rw[lI];lia
   rw[e,Nat.mul_add,Nat.mul_one,sM];have:w * (2 * 2 ^ k * w) % 2=0:=by
    have:w * (2 * 2 ^ k * w)=2 * (w * 2 ^ k * w):=by grind
    rw[this];exact Nat.mul_mod_right _ _
   lia
  ·have e:2 ^ (k + 1)=2 ^ k + 2 ^ k:=by rw[lI];lia
   rw[e,acC,h,h]
   grind
theorem alU(k:Nat):∀x e:Nat,∃m,m < 2 ^ k/\it m x % 2 ^ k=e % 2 ^ k:=by
 induction k with
 |zero=>exact fun x e=>⟨0,by decide,by simp[Nat.mod_one]⟩
 |succ k ih =>
  intro x e;obtain⟨m,hm,he⟩:=ih x e;obtain⟨w,hw,hp⟩:=ajn k;have e2:2 ^ (k + 1)=2 ^ k * 2:=lI ..;by_cases c:it m x % 2 ^ (k + 1)=e % 2 ^ (k + 1)
  ·exact⟨m,by rw[e2];lia,c⟩
  ·refine⟨2 ^ k + m,by rw[e2];lia,?_⟩;rw[acC,hp];have pos:0 < 2 ^ k:=sN (by simp);generalize it m x=a at he c;obtain⟨q,hq⟩:∃q,w * (4 * a + 1)=2 * q + 1:=by
    refine⟨w * (4 * a + 1) / 2,?_⟩;have:w * (4 * a + 1) % 2=1:=by
     rw[sP];have:(4 * a + 1) % 2=1:=by lia
     rw[hw,this]
    lia
   have hq':2 ^ k * w * (4 * a + 1)=2 ^ k * 2 * q + 2 ^ k:=by rw[pj,hq];grind
   rw[hq',e2];rw[e2]at c;generalize 2 ^ k=M at *;have h1:(a + (M * 2 * q + M)) % (M * 2)=(a + M) % (M * 2):=by
    have:a + (M * 2 * q + M)=a + M + M * 2 * q:=by lia
    rw[this,pk]
   rw[h1];have a1:=Nat.mod_add_div a (M * 2);have b1:=Nat.mod_add_div e (M * 2);have al:=lL a (show 0 < M * 2 by lia);have bl:=lL e (show 0 < M * 2 by lia);generalize a % (M * 2)=ra at a1 al c;generalize e % (M * 2)=rb at b1 bl c ⊢;have ham:a % M=ra % M:=by rw[<- a1,pj,pk]
   have hbm:e % M=rb % M:=by rw[<- b1,pj,pk]
   have hrr:ra % M=rb % M:=by rw[<- ham,<- hbm];exact he
   have hA:(a + M) % (M * 2)=(ra + M) % (M * 2):=by
    rw[<- a1];have:ra + M * 2 * (a / (M * 2)) + M=ra + M + M * 2 * (a / (M * 2)):=by lia
    rw[this,pk]
   rw[hA];by_cases ha:ra < M
   ·have e3:ra % M=ra:=iq ha;have hb:¬rb < M:=fun z=>c (by rw[iq z]at hrr;lia);have e4:rb % M=rb - M:=by rw[pM (by lia),iq (by lia)]
    rw[iq (by lia)];lia
   ·have e3:ra % M=ra - M:=by rw[pM (by lia),iq (by lia)]
    have hb:rb < M:=Nat.lt_of_not_le fun z=>c (by
     have e4:rb % M=rb - M:=by rw[pM (by lia),iq (by lia)]
     lia)
    have e4:rb % M=rb:=iq hb;rw[pM (by lia),iq (by lia)];lia
end Tb
namespace Tb
open PySem PySem.SetTable
def rB(t:bE):Nat->Probe->Probe
 | 0,p=>p
 |s + 1,p=>rB t s (t.advance p)
theorem uh(t:bE)(a b:Nat)(p:Probe):rB t (a + b) p=rB t b (rB t a p):=by
 induction a generalizing p with
 |zero=>simp[rB]
 |succ a ih=>rw[Nat.succ_add];simp only[rB];exact ih _
theorem pG(t:bE)(s:Nat)(p:Probe):rB t (s + 1) p=t.advance (rB t s p):=by rw[uh];rfl
def rC(mask i pt:Nat)(d:Option Nat):Probe:={ j:=i,more:=runEnd mask i - i,i:=i,perturb:=pt,dummy:=d }
theorem ajo(mask i:Nat):runEnd mask i - i<=9:=by unfold runEnd;split <;> lia
theorem YM(t:bE):∀(m:Nat) (p:Probe),m<=p.more->rB t m p={ p with j:=p.j + m,more:=p.more - m }:=by
 intro m
 induction m with
 |zero=>intro p _;simp[rB]
 |succ m ih =>
  intro p h;rw[pG,ih p (by lia)];unfold advance;simp only;rw[if_pos (by lia)];simp only[Probe.mk.injEq,and_true,true_and];lia
theorem DQ(t:bE)(p:Probe):rB t (p.more + 1) p=rC t.mask (leap t.mask p.i p.perturb).1 (leap t.mask p.i p.perturb).2 p.dummy:=by rw[pG,YM t p.more p (bj _)];unfold advance rC;simp only[Nat.sub_self,f9,gt_iff_lt,if_false]
def lp(mask:Nat):Nat->Nat×Nat->Nat×Nat
 | 0,x=>x
 |n + 1,x=>leap mask (lp mask n x).1 (lp mask n x).2
theorem ajp(t:bE)(d:Option Nat)(i pt:Nat):∀n,∃s,s<=10 * n/\rB t s (rC t.mask i pt d)=rC t.mask (lp t.mask n (i,pt)).1 (lp t.mask n (i,pt)).2 d:=by
 intro n
 induction n with
 |zero=>exact⟨0,by lia,rfl⟩
 |succ n ih =>
  obtain⟨s,hs,e⟩:=ih;refine⟨s + ((rC t.mask (lp t.mask n (i,pt)).1 (lp t.mask n (i,pt)).2 d).more + 1),?_,?_⟩
  ·have:=ajo t.mask (lp t.mask n (i,pt)).1;simp only[rC];lia
  ·rw[uh,e,DQ];rfl
theorem alV(mask:Nat)(x:Nat×Nat):∀n,(lp mask n x).2=x.2 / 32 ^ n:=by
 intro n
 induction n with
 |zero=>simp[lp]
 |succ n ih=>simp only[lp,leap,ih];rw[Nat.div_div_eq_div_mul,lI]
theorem alW(mask:Nat)(x:Nat×Nat)(n:Nat):(lp mask (n + 1) x).1 < mask + 1:=lL _ (by lia)
theorem acD(mask:Nat)(x:Nat×Nat)(a b:Nat):lp mask (a + b) x=lp mask b (lp mask a x):=by
 induction b with
 |zero=>rfl
 |succ b ih=>rw[Nat.add_succ];simp only[lp,ih]
theorem afL(mask i:Nat)(hi:i < mask + 1):∀n,lp mask n (i,0)=(it n i % (mask + 1),0):=by
 intro n
 induction n with
 |zero=>simp[lp,it,iq hi]
 |succ n ih =>
  simp only[lp,ih,leap,it,sQ,Nat.zero_div,lS,and_true];rw[Nat.mul_comm,sM,sP,Nat.mod_mod,<- sP,<- sM]
theorem acE{mask k:Nat}(hk:mask + 1=2 ^ k)(i pt:Nat)(hp:pt < 2 ^ 64){e:Nat}(he:e<=mask):∃n,n<=mask + 13/\(lp mask n (i,pt)).1=e:=by
 have h13:(lp mask 13 (i,pt)).2=0:=by rw[alV];exact Nat.div_eq_of_lt (sR hp (by decide))
 have hl:=alW mask (i,pt) 12;obtain⟨m,hm,e1⟩:=alU k (lp mask 13 (i,pt)).1 e;refine⟨13 + m,by lia,?_⟩;rw[acD];have e2:lp mask 13 (i,pt)=((lp mask 13 (i,pt)).1,0):=by rw[<- h13]
 rw[e2,afL _ _ hl,hk,e1,iq (by lia)]
theorem hit{t:bE}{k:Nat}(hk:t.mask + 1=2 ^ k)(p:Probe)(h9:p.more<=9)(hp:p.perturb < 2 ^ 64){e:Nat}(he:e<=t.mask):∃s,s<=10 * (t.mask + 14)/\(rB t s p).j=e:=by have hq:(leap t.mask p.i p.perturb).2 < 2 ^ 64:=i5 (Nat.div_le_self _ _) hp;obtain⟨n,hn,e1⟩:=acE hk (leap t.mask p.i p.perturb).1 (leap t.mask p.i p.perturb).2 hq he;obtain⟨s,hs,e2⟩:=ajp t p.dummy (leap t.mask p.i p.perturb).1 (leap t.mask p.i p.perturb).2 n;refine⟨p.more + 1 + s,by lia,?_⟩;rw[uh,DQ,e2];exact e1
theorem ajq(t:bE)(p:Probe)(h9:p.more<=9)(hp:p.perturb < 2 ^ 64):∀s,(rB t s p).more<=9/\(rB t s p).perturb < 2 ^ 64/\(rB t s p).dummy=p.dummy:=by
 intro s
 induction s with
 |zero=>exact⟨h9,hp,rfl⟩
 |succ s ih =>
  rw[pG];obtain⟨a,b,c⟩:=ih;unfold advance;split
  ·exact⟨by simp only;lia,b,c⟩
  ·exact⟨ajo _ _,i5 (Nat.div_le_self _ _) b,c⟩
theorem YQ(h:Int):bits h < 2 ^ 64:=by unfold bits;have:=kB h (show(0:Int) < 2 ^ 64 by decide);have:=j0 h (show(2 ^ 64:Int)≠0 by decide);lia
def pos(t:bE)(h:Int)(s:Nat):Nat:=(rB t s (t.probeStart h)).j
theorem wD(t:bE)(h:Int)(s:Nat):(rB t s (t.probeStart h)).more<=9/\(rB t s (t.probeStart h)).perturb < 2 ^ 64/\(rB t s (t.probeStart h)).dummy=none :=
 ajq t _ (ajo _ _) (YQ h) s
theorem afM{t:bE}{k:Nat}(hk:t.mask + 1=2 ^ k)(h:Int)(s0:Nat){e:Nat}(he:e<=t.mask):∃s,s0<=s/\s<=s0 + 10 * (t.mask + 14)/\pos t h s=e:=by obtain⟨a,b,_⟩:=wD t h s0;obtain⟨s,hs,e1⟩:=hit hk (rB t s0 (t.probeStart h)) a b he;exact⟨s0 + s,by lia,by lia,by unfold pos;rw[uh];exact e1⟩
def DR(xs:Array Nat):Prop:=∀a b,a < b->b < xs.size->xs.getD a 0 < xs.getD b 0
theorem afN{xs:Array Nat}{a:Nat}(h:a < xs.size)(d:Nat):xs.getD a d=xs.getD a 0:=by simp[gS,h]
theorem acF{xs:Array Nat}{j:Nat}(R:DR xs):∀(fuel lo hi:Nat),lo<=hi->hi<=xs.size->hi<=lo + fuel->(∀a,a < lo->xs.getD a 0 < j)->(∀a,hi<=a->a < xs.size->j<=xs.getD a 0) ->
  below.go xs j fuel lo hi<=xs.size/\(∀a,a < below.go xs j fuel lo hi->xs.getD a 0 < j)/\(∀a,below.go xs j fuel lo hi<=a->a < xs.size->j<=xs.getD a 0):=by
 intro fuel
 induction fuel with
 |zero =>
  intro lo hi h1 h2 h3 h4 h5;obtain rfl:lo=hi:=by lia
  exact⟨h2,h4,h5⟩
 |succ fuel ih =>
  intro lo hi h1 h2 h3 h4 h5;unfold below.go;by_cases c:lo < hi
  ·rw[if_pos c];simp only;have hm:(lo + hi) / 2 < xs.size:=by lia
   rw[afN hm];by_cases d:xs.getD ((lo + hi) / 2) 0 < j
   ·rw[if_pos d];refine ih _ _ (by lia) h2 (by lia) (fun a ha=>?_) h5;by_cases e:a=(lo + hi) / 2
    ·rw[e];exact d
    ·exact sR (R a ((lo + hi) / 2) (by lia) hm) d
   ·rw[if_neg d];refine ih _ _ (by lia) (by lia) (by lia) h4 fun a ha hs=>?_;by_cases e:a=(lo + hi) / 2
    ·rw[e];lia
    ·exact cx (by lia) (fv (R ((lo + hi) / 2) a (by lia) hs))
  ·rw[if_neg c];obtain rfl:lo=hi:=by lia
   exact⟨h2,h4,h5⟩
theorem vm{xs:Array Nat}(R:DR xs)(j:Nat):below xs j<=xs.size/\(∀a,a < below xs j->xs.getD a 0 < j)/\(∀a,below xs j<=a->a < xs.size->j<=xs.getD a 0) :=
 acF R xs.size 0 xs.size (d7 _) (bj _) (by lia) (fun a h=>absurd h (by lia)) fun a h1 h2=>absurd h1 (by lia)
theorem acG{xs:Array Nat}(R:DR xs){i:Nat}(hi:i < xs.size):below xs (xs.getD i 0)=i:=by
 obtain⟨h1,h2,h3⟩:=vm R (xs.getD i 0);by_cases c:below xs (xs.getD i 0) < i
 ·have:=h3 _ (bj _) (by lia);have:=R _ i c hi;lia
 ·by_cases d:i < below xs (xs.getD i 0)
  ·have:=h2 i d;lia
  ·lia
def DW(t:bE)(j:Nat):Prop:=∃i,i < t.place.size/\t.place.getD i 0=j
theorem QZ{xs:Array Nat}{i:Nat}(hi:i < xs.size):xs[i]?=some (xs.getD i 0):=by simp[gS,hi]
theorem Jw{t:bE}(R:DR t.place){i:Nat}(hi:i < t.place.size):t.slot (t.place.getD i 0)=.live i:=by unfold slot;simp only;rw[acG R hi,QZ hi];simp
theorem Wg{t:bE}(nd:t.dummies=#[]){j:Nat}(h:¬DW t j):t.slot j=.empty:=by
 unfold slot;simp only;rw[if_neg,if_neg]
 ·unfold has;rw[nd];simp
 ·intro c;apply h;have c':t.place[below t.place j]?=some j:=by simpa using c
  obtain⟨hl,e⟩:=gT.mp c';exact⟨_,hl,by simp[gS,hl,e]⟩
theorem Lk{t:bE}(R:DR t.place){j:Nat}(h:DW t j):∃i,i < t.place.size/\t.place.getD i 0=j/\t.slot j=.live i:=by obtain⟨i,hi,e⟩:=h;exact⟨i,hi,e,by rw[<- e];exact Jw R hi⟩
theorem afO{xs:Array Nat}(R:DR xs):∀i,i < xs.size->i<=xs.getD i 0:=by
 intro i
 induction i with
 |zero=>intro _;exact d7 _
 |succ i ih=>intro h;have:=ih (by lia);have:=R i (i + 1) (by lia) h;lia
theorem Wh{t:bE}(R:DR t.place)(hs:t.place.size<=t.mask):∃e,e<=t.mask/\¬DW t e:=by
 have key:∀n,n<=t.place.size->(∀a,a < n->t.place.getD a 0=a)∨∃e,e < n/\t.place.getD e 0≠e/\∀a,a < e->t.place.getD a 0=a:=by
  intro n
  induction n with
  |zero=>intro _;exact .inl fun a h=>absurd h (by lia)
  |succ n ih =>
   intro h;rcases ih (by lia) with h1|⟨e,h1,h2,h3⟩
   ·by_cases c:t.place.getD n 0=n
    ·refine .inl fun a ha=>?_;by_cases d:a=n
     ·rw[d];exact c
     ·exact h1 a (by lia)
    ·exact .inr ⟨n,by lia,c,h1⟩
   ·exact .inr ⟨e,by lia,h2,h3⟩
 rcases key t.place.size (bj _) with h|⟨e,h1,h2,h3⟩
 ·refine⟨t.place.size,hs,fun⟨i,hi,e⟩=>?_⟩;have:=h i hi;lia
 ·refine⟨e,by lia,fun⟨i,hi,e'⟩=>?_⟩;by_cases c:i < e
  ·have:=h3 i c;lia
  ·have hge:=afO R e h1;by_cases d:i=e
   ·subst d;exact h2 e'
   ·have:=R e i (by lia) hi;lia
theorem acH{t:bE}(R:DR t.place)(nd:t.dummies=#[])(hashAt:Nat->Int)(h:Int):∀(fuel s0 s1:Nat),s0<=s1->s1 < s0 + fuel->¬DW t (pos t h s1) ->
    ∃s2,s0<=s2/\s2<=s1/\(∀s,s0<=s->s < s2->∃i,i < t.place.size/\t.place.getD i 0=pos t h s/\hashAt i≠h) /\
      ((¬DW t (pos t h s2) /\ probe.go t hashAt h fuel (rB t s0 (t.probeStart h)) = some (.empty (pos t h s2) none)) ∨
       ∃i,i < t.place.size/\t.place.getD i 0=pos t h s2/\hashAt i=h/\probe.go t hashAt h fuel (rB t s0 (t.probeStart h))=some (.candidate (pos t h s2) i (rB t (s2 + 1) (t.probeStart h)))):=by
  intro fuel
  induction fuel with
  |zero=>intro s0 s1 h1 h2;lia
  |succ fuel ih =>
    intro s0 s1 h1 h2 hl;have hd:=(wD t h s0).2.2;unfold probe.go;by_cases c:DW t (pos t h s0)
    . obtain⟨i,hi,e1,e2⟩:=Lk R c
      have e2':t.slot (rB t s0 (t.probeStart h)).j=.live i:=e2;rw[e2'];simp only;by_cases d:hashAt i=h
      . refine⟨s0,bj _,h1,fun s a b=>absurd a (by lia),.inr ⟨i,hi,e1,d,?_⟩⟩
        rw[if_pos (by simp[d]),pG];rfl
      . rw[if_neg (by simp[d]),<- pG]
        have hne:s0≠s1:=fun z=>hl (z▸c);obtain⟨s2,a1,a2,a3,a4⟩:=ih (s0 + 1) s1 (by lia) (by lia) hl;refine⟨s2,by lia,a2,fun s b1 b2=>?_,a4⟩;by_cases z:s=s0
        . subst z;exact⟨i,hi,e1,d⟩
        . exact a3 s (by lia) b2
    . refine⟨s0,bj _,h1,fun s a b=>absurd a (by lia),.inl ⟨c,?_⟩⟩
      have e2:t.slot (rB t s0 (t.probeStart h)).j=.empty:=Wg nd c;rw[e2];simp only;rw[hd];rfl
theorem acI{t t':bE}(e:t.mask=t'.mask):∀s p,rB t s p=rB t' s p:=by
 intro s
 induction s with
 |zero=>intro p;rfl
 |succ s ih =>
  intro p;simp only[rB];have:t.advance p=t'.advance p:=by unfold advance;rw[e]
  rw[this,ih]
theorem Ra{t t':bE}(e:t.mask=t'.mask)(h:Int)(s:Nat):pos t h s=pos t' h s:=by
 unfold pos;have:t.probeStart h=t'.probeStart h:=by unfold probeStart;rw[e]
 rw[this,acI e]
abbrev rD:=Nat×Int×aa
structure Good (t:bE)(L:List rD):Prop where
 pw:∃k,t.mask + 1=2 ^ k
 m7:7<=t.mask
 nd:t.dummies=#[]
 pl:t.place=(L.map (·.1)).toArray
 so:(L.map (·.1)).Pairwise (· < ·)
 le:∀e∈L,e.1<=t.mask
 reach:∀e∈L,∃s,pos t e.2.1 s=e.1/\∀s',s' < s->∃e'∈L,e'.1=pos t e.2.1 s'
section
variable{t:bE}{L:List rD}
theorem Good.sz(g:Good t L):t.place.size=L.length:=by rw[g.pl];simp
theorem Good.at(g:Good t L){i:Nat}(hi:i < L.length):t.place.getD i 0=L[i].1:=by rw[g.pl];simp[gS,hi]
theorem Good.rise(g:Good t L):DR t.place:=by intro a b hab hb;rw[g.sz]at hb;rw[g.at (show a < L.length by lia),g.at hb];have:=(j3.mp g.so) a b (by simpa using(show a < L.length by lia)) (by simpa using hb) hab;simpa using this
theorem Good.live(g:Good t L){j:Nat}:DW t j↔∃e∈L,e.1=j:=by
 constructor
 ·rintro⟨i,hi,e⟩;rw[g.sz]at hi;rw[g.at hi]at e;exact⟨L[i],eB hi,e⟩
 ·rintro⟨e,he,q⟩;obtain⟨i,hi,e1⟩:=lT.mp he;exact⟨i,by rw[g.sz];exact hi,by rw[g.at hi,e1];exact q⟩
theorem Good.uniq(g:Good t L){e e':rD}(h:e∈L)(h':e'∈L)(q:e.1=e'.1):e=e':=by
 obtain⟨i,hi,rfl⟩:=lT.mp h;obtain⟨j,hj,rfl⟩:=lT.mp h';have R:=g.rise;by_cases c:i < j
 ·have:=R i j c (by rw[g.sz];exact hj);rw[g.at hi,g.at hj]at this;lia
 ·by_cases d:j < i
  ·have:=R j i d (by rw[g.sz];exact hi);rw[g.at hi,g.at hj]at this;lia
  ·obtain rfl:i=j:=by lia
   rfl
end
theorem uN{α:Type}(xs:List α)(p:Nat)(hp:p<=xs.length)(x:α):insertAt xs.toArray p x=(xs.take p++x::xs.drop p).toArray:=by unfold insertAt;apply pS.mp;simp only[List.extract_toArray,cw,ir,pT,List.extract_eq_take_drop,Nat.sub_zero,List.drop_zero];rw[sT (l:=xs.drop p) (by simp)];simp
theorem Ln(t:bE)(nd:t.dummies=#[])(j:Nat):t.put j=({ t with place:=insertAt t.place (below t.place j) j },below t.place j):=by
 unfold put;have:has t.dummies j=false:=by unfold has;rw[nd];simp
 simp only[this,bq,if_false]
theorem Good.put{t:bE}{L:List rD}(g:Good t L){j:Nat}{h:Int}{x:aa}(hj:j<=t.mask)(hn:¬DW t j)(hr:∃s,pos t h s=j/\∀s',s' < s->∃e'∈L,e'.1=pos t h s') :
  (t.put j).2<=L.length/\Good (t.put j).1 (L.take (t.put j).2++(j,h,x)::L.drop (t.put j).2):=by
 rw[Ln t g.nd];obtain⟨b1,b2,b3⟩:=vm g.rise j;rw[g.sz]at b1 b3;simp only;generalize hp:below t.place j=p at *;refine⟨b1,?_⟩;have mem:∀e:rD,e∈L.take p++(j,h,x)::L.drop p↔e=(j,h,x)∨e∈L:=fun e=>by
  have:L=L.take p++L.drop p:=(l4 p L).symm;constructor
  ·intro z;rcases dq.mp z with z|z
   ·exact .inr (pV z)
   ·rcases bz.mp z with z|z
    ·exact .inl z
    ·exact .inr (List.mem_of_mem_drop z)
  ·rintro(z|z)
   ·subst z;simp
   ·rw[this]at z;rcases dq.mp z with z|z
    ·exact kT _ z
    ·exact eA _ (dt _ z)
 have pm:∀(hh:Int) (s:Nat),pos { t with place:=insertAt t.place p j } hh s=pos t hh s:=fun hh s=>Ra (by rfl) hh s;refine⟨g.pw,g.m7,g.nd,?_,?_,fun e he=>?_,fun e he=>?_⟩
 ·show insertAt t.place p j=_;rw[g.pl,uN _ _ (by simpa using b1)];simp[s_,td]
 ·simp only[kC,b_];rw[gp];refine⟨?_,?_,?_⟩
  ·rw[s_];exact i8 (m8 _ _) g.so
  ·rw[fq];refine⟨fun a ha=>?_,?_⟩
   ·obtain⟨e,he,rfl⟩:=c8.mp ha;obtain⟨i,hi,rfl⟩:=lT.mp he;have hi':p + i < L.length:=by simp at hi;lia
    have q:=b3 (p + i) (by lia) hi';rw[g.at hi']at q;have ne:L[p + i].1≠j:=fun z=>hn (g.live.mpr ⟨_,eB hi',z⟩);simp only[List.getElem_drop];show j < _;lia
   ·rw[td];exact i8 (tf _ _) g.so
  ·intro a ha b hb;obtain⟨e,he,rfl⟩:=c8.mp ha;obtain⟨i,hi,rfl⟩:=lT.mp he;have hi':i < p:=by simp at hi;lia
   have q:=b2 i hi';rw[g.at (show i < L.length by lia)]at q;simp only[List.getElem_take];rcases bz.mp hb with z|z
   ·rw[z];exact q
   ·obtain⟨e',he',rfl⟩:=c8.mp z;obtain⟨i',hi2,rfl⟩:=lT.mp he';have hi3:p + i' < L.length:=by simp at hi2;lia
    have:=b3 (p + i') (by lia) hi3;rw[g.at hi3]at this;simp only[List.getElem_drop];lia
 ·rcases(mem e).mp he with z|z
  ·rw[z];exact hj
  ·exact g.le e z
 ·rcases(mem e).mp he with z|z
  ·subst z;obtain⟨s,e1,e2⟩:=hr;refine⟨s,by rw[pm];exact e1,fun s' hs=>?_⟩;obtain⟨e',h1,h2⟩:=e2 s' hs;exact⟨e',(mem e').mpr (.inr h1),by rw[pm];exact h2⟩
  ·obtain⟨s,e1,e2⟩:=g.reach e z;refine⟨s,by rw[pm];exact e1,fun s' hs=>?_⟩;obtain⟨e',h1,h2⟩:=e2 s' hs;exact⟨e',(mem e').mpr (.inr h1),by rw[pm];exact h2⟩
def jJ(owner:Array (Option Nat))(j:Nat):Prop:=owner.getD j (some 0)=none
theorem aaz{mask:Nat}{t:bE}(ht:t.mask=mask)(owner:Array (Option Nat)):∀(fuel i pt n:Nat),n < fuel->jJ owner (lp mask n (i,pt)).1 ->
  ∃j s,layClean.free mask owner fuel i pt=some j/\(rB t s (rC mask i pt none)).j=j/\jJ owner j/\∀s',s' < s->¬jJ owner (rB t s' (rC mask i pt none)).j:=by
 intro fuel
 induction fuel with
 |zero=>intro i pt n h;lia
 |succ fuel ih =>
  intro i pt n hn hN;unfold layClean.free;have run:∀s,s<=runEnd mask i - i->(rB t s (rC mask i pt none)).j=i + s:=fun s hs=>by rw[YM t s _ hs];rfl
  have hre:i<=runEnd mask i:=by unfold runEnd;split <;> lia
  cases e:(bu (runEnd mask i + 1 - i)).find? fun k=>(owner.getD (i + k) (some 0)).isNone with
  |some k =>
   simp only;have h1:=List.find?_some e;have h2:=List.mem_of_find?_eq_some e;have h3:=ef.mp h2;refine⟨i + k,k,rfl,run k (by lia),by simpa[jJ] using h1,fun s' hs z=>?_⟩;rw[run s' (by lia)]at z;have:=List.find?_eq_some_iff_append.mp e;obtain⟨_,as,bs,e1,e2⟩:=this;have hs':s'∈as:=by
    have hm:s'∈bu (runEnd mask i + 1 - i):=ef.mpr (by lia);have ps:=List.pairwise_lt_range (n:=runEnd mask i + 1 - i);rw[e1]at hm ps;rcases dq.mp hm with hm|hm
    ·exact hm
    ·rcases bz.mp hm with hm|hm
     ·lia
     ·have:=(fq.mp (gp.mp ps).2.1).1 s' hm;lia
   have:=e2 s' hs';rw[show owner.getD (i + s') (some 0)=none from z]at this;simp at this
  |none =>
   simp only;have h1:=List.find?_eq_none.mp e;have no:∀s,s<=runEnd mask i - i->¬jJ owner (i + s):=fun s hs z=>by have:=h1 s (ef.mpr (by lia));rw[show owner.getD (i + s) (some 0)=none from z]at this;simp at this
   cases n with
   |zero=>exact absurd hN (no 0 (by lia))
   |succ n =>
    have e3:lp mask (n + 1) (i,pt)=lp mask n (leap mask i pt):=by rw[tj,acD];rfl
    rw[e3]at hN;obtain⟨j,s,a1,a2,a3,a4⟩:=ih (leap mask i pt).1 (leap mask i pt).2 n (by lia) hN;have hl:rB t (runEnd mask i - i + 1) (rC mask i pt none)=rC mask (leap mask i pt).1 (leap mask i pt).2 none:=by have:=DQ t (rC mask i pt none);rw[ht]at this;exact this
    refine⟨j,runEnd mask i - i + 1 + s,a1,by rw[uh,hl];exact a2,a3,fun s' hs z=>?_⟩;by_cases c:s'<=runEnd mask i - i
    ·rw[run s' c]at z;exact no s' c z
    ·obtain⟨q,rfl⟩:∃q,s'=runEnd mask i - i + 1 + q:=⟨s' - (runEnd mask i - i + 1),by lia⟩
     rw[uh,hl]at z;exact a4 q (by lia) z
theorem wF{α β:Type}{f g:α->Option β}:∀{l:List α},(∀a∈l,f a=g a)->l.filterMap f=l.filterMap g
 | [],_=>rfl
 |a::l,h=>by have ih:=wF (l:=l) fun b hb=>h b (dt _ hb);simp only[kR,ih,h a df]
def gR(M:Nat)(owner:Array (Option Nat)):List (Nat×Nat):=(bu M).filterMap fun j=>(owner.getD j none).map (j,·)
theorem qu{M:Nat}{owner:Array (Option Nat)}{j i:Nat}:(j,i)∈gR M owner↔j < M/\owner.getD j none=some i:=by
 unfold gR;simp only[iX,ef,p7,sQ];constructor
 ·rintro⟨a,h1,b,h2,rfl,rfl⟩;exact⟨h1,h2⟩
 ·rintro⟨h1,h2⟩;exact⟨j,h1,i,h2,rfl,rfl⟩
theorem GP{M:Nat}{owner:Array (Option Nat)}:((gR M owner).map (·.1)).Pairwise (· < ·):=by
 have e:(gR M owner).map (·.1)=(bu M).filter fun j=>(owner.getD j none).isSome:=by unfold gR;rw[tm,<- List.filterMap_eq_filter];congr 1;funext j;generalize hz:owner.getD j none=o;cases o <;> simp[Option.guard,hz]
 rw[e];exact i8 List.filter_sublist List.pairwise_lt_range
theorem Rb{f f':Nat->Option (Nat×Nat)}{j:Nat}{v:Nat×Nat}:∀{l:List Nat},l.Nodup->j∈l->f j=none->f' j=some v->(∀a,a≠j->f' a=f a)->(l.filterMap f').Perm (v::l.filterMap f)
 | [],_,h,_,_,_=>by cases h
 |a::l,nd,h,h1,h2,h3=>by
  have nd':=jn.mp nd;by_cases c:a=j
  ·subst c;have same:l.filterMap f'=l.filterMap f:=wF fun b hb=>h3 b fun z=>nd'.1 (z▸hb);rw[nI h2,tq h1,same]
  ·have hm:j∈l:=(bz.mp h).resolve_left (dm c);have ih:=Rb nd'.2 hm h1 h2 h3;cases e:f a with
   |none =>
    rw[tq (by rw[h3 a c];exact e),tq e];exact ih
   |some b =>
    rw[nI (by rw[h3 a c];exact e),nI e];exact(ih.cons b).trans (g7.swap ..)
theorem Wj{M:Nat}{owner:Array (Option Nat)}(hs:owner.size=M){j k:Nat}(hj:j < M)(hn:owner.getD j none=none):(gR M (owner.setIfInBounds j (some k))).Perm ((j,k)::gR M owner):=by
 unfold gR;refine Rb (j:=j) List.nodup_range (ef.mpr hj) (by rw[hn];rfl) ?_ fun a ha=>?_
 ·have:(owner.setIfInBounds j (some k)).getD j none=some k:=by simp[gS,hs,hj]
  rw[this];rfl
 ·have:(owner.setIfInBounds j (some k)).getD a none=owner.getD a none:=by simp only[j4];rw[Array.getElem?_setIfInBounds_ne (dm ha)]
  rw[this]
structure LC (t:bE)(hs:List Int)(owner:Array (Option Nat))(k:Nat):Prop where
 sz:owner.size=t.mask + 1
 pm:((gR (t.mask + 1) owner).map (·.2)).Perm (bu k)
 reach:∀j i,(j,i)∈gR (t.mask + 1) owner->∃h,hs[i]?=some h/\∃s,pos t h s=j/\∀s',s' < s->¬jJ owner (pos t h s')
theorem YT{owner:Array (Option Nat)}{j:Nat}(h:jJ owner j):j < owner.size/\owner.getD j none=none:=by
 unfold jJ at h;by_cases c:j < owner.size
 ·simp only[gS,c,dif_pos]at h ⊢;exact⟨trivial,h⟩
 ·simp[gS,c]at h
theorem LC.step{t:bE}{hs:List Int}{owner:Array (Option Nat)}{k:Nat}(g:LC t hs owner k)(pw:∃q,t.mask + 1=2 ^ q)(hk:k<=t.mask){h:Int}(hh:hs[k]?=some h) :
  ∃j,layClean.free t.mask owner (turns t.mask) (bits h % (t.mask + 1)) (bits h)=some j/\LC t hs (owner.setIfInBounds j (some k)) (k + 1):=by
 obtain⟨q,hq⟩:=pw;have emp:∃e,e<=t.mask/\jJ owner e:=by
  refine Classical.byContradiction fun c=>?_;have all:∀e,e < t.mask + 1->∃i,(e,i)∈gR (t.mask + 1) owner:=fun e he=>by
   cases z:owner.getD e none with
   |some i=>exact⟨i,qu.mpr ⟨he,z⟩⟩
   |none =>
    refine absurd ⟨e,by lia,?_⟩ c;have hl:e < owner.size:=by rw[g.sz];exact he
    simp only[jJ,gS,hl,dif_pos]at z ⊢;exact z
  have l1:(gR (t.mask + 1) owner).length=k:=by have:=g.pm.length_eq;simpa using this
  have l2:((gR (t.mask + 1) owner).map (·.1))=bu (t.mask + 1):=by
   unfold gR;rw[tm];have:(bu (t.mask + 1)).filterMap (fun x=>Option.map (·.1) (Option.map (x,·) (owner.getD x none)))=(bu (t.mask + 1)).filterMap some:=by refine wF fun x hx=>?_;obtain⟨i,hi⟩:=all x (ef.mp hx);rw[(qu.mp hi).2];rfl
   rw[this];simp
  have l3:=congrArg eI l2;simp at l3;lia
 obtain⟨e,he,hN⟩:=emp;obtain⟨n,hn,en⟩:=acE hq (bits h % (t.mask + 1)) (bits h) (YQ h) he;obtain⟨j,s,f1,f2,f3,f4⟩:=aaz (t:=t) rfl owner (turns t.mask) (bits h % (t.mask + 1)) (bits h) n (by unfold turns;lia) (by rw[en];exact hN);obtain⟨hj,hjn⟩:=YT f3;have hp:=Wj (k:=k) g.sz (by rw[<- g.sz];exact hj) hjn;have stays:∀a,¬jJ owner a->¬jJ (owner.setIfInBounds j (some k)) a:=fun a ha z=>by
  by_cases c:a=j
  ·subst c;have:=YT z;simp[gS,hj]at this
  ·apply ha;unfold jJ at z ⊢;simp only[j4]at z ⊢;rw[Array.getElem?_setIfInBounds_ne (dm c)]at z;exact z
 refine⟨j,f1,⟨by simp[g.sz],?_,fun j' i' hm=>?_⟩⟩
 ·have:=(hp.map (fun(x:Nat×Nat)=>x.2)).trans (g7.cons k g.pm);refine this.trans ?_;rw[List.range_succ];exact j5 (l₁:=[k]) (l₂:=bu k)
 ·rcases bz.mp (hp.mem_iff.mp hm) with z|z
  ·cases z;exact⟨h,hh,s,f2,fun s' hs'=>stays _ (f4 s' hs')⟩
  ·obtain⟨h',e1,s1,e2,e3⟩:=g.reach j' i' z;exact⟨h',e1,s1,e2,fun s' hs'=>stays _ (e3 s' hs')⟩
theorem acJ{mask i:Nat}(h:i<=mask):i + (runEnd mask i - i)<=mask:=by unfold runEnd;split <;> lia
theorem ajr(t:bE)(p:Probe)(h:p.j + p.more<=t.mask):∀s,(rB t s p).j + (rB t s p).more<=t.mask:=by
 intro s
 induction s with
 |zero=>exact h
 |succ s ih =>
  rw[pG];unfold advance;split
  ·simp only;lia
  ·exact acJ (Nat.le_of_lt_succ (lL _ (by lia)))
theorem acK(t:bE)(h:Int)(s:Nat):pos t h s<=t.mask:=by have:=ajr t (t.probeStart h) (acJ (Nat.le_of_lt_succ (lL _ (by lia)))) s;unfold pos;lia
theorem acL{t:bE}(pw:∃q,t.mask + 1=2 ^ q)(hs:List Int)(hn:hs.length<=t.mask):∀(rest pre:List Int) (owner:Array (Option Nat)),hs=pre++rest->LC t hs owner pre.length ->
  ∃Lp,rest.foldl (init:=some (owner,pre.length)) (fun acc h=>do
    let (owner,k) <- acc
    let j <- layClean.free t.mask owner (turns t.mask) (bits h % (t.mask + 1)) (bits h)
    pure (owner.setIfInBounds j (some k),k + 1))=some (Lp,hs.length)/\LC t hs Lp hs.length:=by
 intro rest
 induction rest with
 |nil =>
  intro pre owner e g;rw[gc]at e;subst e;exact⟨owner,rfl,g⟩
 |cons h rest ih =>
  intro pre owner e g;have hk:hs[pre.length]?=some h:=by rw[e];simp
  have hl:pre.length<=t.mask:=by rw[e]at hn;simp at hn;lia
  obtain⟨j,f1,g1⟩:=g.step pw hl hk;obtain⟨Lp,e1,g2⟩:=ih (pre++[h]) (owner.setIfInBounds j (some pre.length)) (by rw[e];simp) (by simpa using g1);refine⟨Lp,?_,g2⟩;rw[kx];have:(some (owner,pre.length) >>= fun x=>match x with
    | (owner,k)=>layClean.free t.mask owner (turns t.mask) (bits h % (t.mask + 1)) (bits h) >>= fun j=>pure (owner.setIfInBounds j (some k),k + 1))=some (owner.setIfInBounds j (some pre.length),(pre++[h]).length):=by
   show(layClean.free t.mask owner (turns t.mask) (bits h % (t.mask + 1)) (bits h) >>= fun j=>pure (owner.setIfInBounds j (some pre.length),pre.length + 1))=_;rw[f1];simp
  exact(congrArg (fun o=>rest.foldl _ o) this).trans e1
theorem LC.start(t:bE)(hs:List Int):LC t hs (p8 (t.mask + 1) none) 0:=by
 have e:gR (t.mask + 1) (p8 (t.mask + 1) none)=[]:=by
  unfold gR;rw[List.filterMap_eq_nil_iff];intro j hj;have:(p8 (t.mask + 1) (none:Option Nat)).getD j none=none:=by simp only[j4,Array.getElem?_replicate];split <;> rfl
  rw[this];rfl
 refine⟨by simp,by rw[e];exact .refl _,fun j i h=>?_⟩;rw[e]at h;cases h
theorem Rc{t:bE}(pw:∃q,t.mask + 1=2 ^ q)(hs:Array Int)(hn:hs.size<=t.mask):∃owner,layClean t.mask hs=some owner/\LC t hs.toList owner hs.size:=by obtain⟨owner,e,g⟩:=acL pw hs.toList (by simpa using hn) hs.toList [] (p8 (t.mask + 1) none) rfl (LC.start t _);refine⟨owner,?_,by simpa using g⟩;unfold layClean;rw[<- Array.foldl_toList];have e':=congrArg (Option.map (·.1)) e;exact e'
theorem Lq:∀(fuel size n:Nat),(∃q,size=2 ^ q)->8<=size->n < size * 2 ^ fuel->∃q,sizeAbove.go n fuel size=2 ^ q/\8<=sizeAbove.go n fuel size/\n < sizeAbove.go n fuel size/\(sizeAbove.go n fuel size=size∨sizeAbove.go n fuel size<=2 * n):=by
 intro fuel
 induction fuel with
 |zero=>intro size n ⟨q,hq⟩ h8 h;exact⟨q,hq,h8,by simpa[sizeAbove.go] using h,.inl rfl⟩
 |succ fuel ih =>
  intro size n ⟨q,hq⟩ h8 h;unfold sizeAbove.go;by_cases c:size<=n
  ·rw[if_pos c];obtain⟨q',a1,a2,a3,a4⟩:=ih (size * 2) n ⟨q + 1,by rw[hq,lI]⟩ (by lia) (by rw[pj,<- Nat.pow_succ'];exact h);refine⟨q',a1,a2,a3,.inr ?_⟩;rcases a4 with a4|a4
   ·rw[a4];lia
   ·exact a4
  ·rw[if_neg c];exact⟨q,hq,h8,by lia,.inl rfl⟩
theorem Lr(n:Nat)(hn:n < 2 ^ 60):(∃q,sizeAbove n - 1 + 1=2 ^ q)/\7<=sizeAbove n - 1/\n<=sizeAbove n - 1/\(sizeAbove n - 1=7∨sizeAbove n<=2 * n):=by
 obtain⟨q,a1,a2,a3,a4⟩:=Lq 64 8 n ⟨3,rfl⟩ (bj _) (sR hn (by decide));unfold sizeAbove;refine⟨⟨q,by rw[<- a1];lia⟩,by lia,by lia,?_⟩;rcases a4 with a4|a4
 ·left;lia
 ·right;exact a4
theorem aaA{mask:Nat}(pw:∃q,mask + 1=2 ^ q)(m7:7<=mask)(finger moves:Nat)(led plain:Bool)(es:List (Int×aa))(hn:es.length<=mask) :
  ∃t' order L,laid mask finger moves led plain (es.map (·.1)).toArray=some (t',order)/\t'.mask=mask/\t'.led=led/\t'.plain=plain/\t'.moves=moves/\Good t' L/\order.filterMap (fun i=>es.toArray[i]?)=(L.map (·.2)).toArray/\(L.map (·.2)).Perm es:=by
 let t0:bE:={ mask,place:=#[],dummies:=#[],finger,led,moves,plain }
 obtain⟨owner,e1,g⟩:=Rc (t:=t0) pw (es.map (·.1)).toArray (by simpa using hn)
 let live:=gR (mask + 1) owner
 let t1:bE:={ mask,place:=(live.map (·.1)).toArray,dummies:=#[],finger,led,moves,plain }
 have hi:∀j i,(j,i)∈live->∃e,es[i]?=some e:=fun j i h=>by obtain⟨hh,a1,_⟩:=g.reach j i h;simp only[cf,p7]at a1;obtain⟨e,a2,_⟩:=a1;exact⟨e,a2⟩
 let L:List rD:=live.filterMap fun x=>(es[x.2]?).map fun e=>(x.1,e)
 have hL1:∀l:List (Nat×Nat),(∀x∈l,∃e,es[x.2]?=some e)->(l.filterMap fun x=>(es[x.2]?).map fun e=>((x.1,e):rD)).map (·.1)=l.map (·.1):=by
  intro l
  induction l with
  |nil=>intro _;rfl
  |cons x l ih =>
   intro h;obtain⟨e,he⟩:=h x df;rw[nI (by rw[he];rfl),b_,b_,ih fun y hy=>h y (dt _ hy)]
 have hL2:∀l:List (Nat×Nat),(l.filterMap fun x=>(es[x.2]?).map fun e=>((x.1,e):rD)).map (·.2)=(l.map (·.2)).filterMap fun i=>es[i]?:=by intro l;rw[tm,List.filterMap_map];refine wF fun x _=>?_;simp only[Function.comp];cases es[x.2]? <;> rfl
 have rg:∀l:List (Int×aa),(bu l.length).filterMap (fun i=>l[i]?)=l:=by
  intro l
  induction l with
  |nil=>rfl
  |cons a l ih =>
   rw[cv,lj,nI (by rfl),List.filterMap_map];congr 1
 have pmL:(L.map (·.2)).Perm es:=by
  show((live.filterMap fun x=>(es[x.2]?).map fun e=>((x.1,e):rD)).map (·.2)).Perm es;rw[hL2];have:=(g.pm.filterMap fun i=>es[i]?)
  have e2:(es.map (·.1)).toArray.size=es.length:=by simp
  rw[e2]at this;rw[rg]at this;exact this
 refine⟨t1,(live.map (·.2)).toArray,L,?_,rfl,rfl,rfl,rfl,⟨pw,m7,rfl,?_,?_,fun e he=>?_,fun e he=>?_⟩,?_,pmL⟩
 ·unfold laid;have e1':layClean mask (es.map (·.1)).toArray=some owner:=e1;rw[e1'];rfl
 ·show(live.map (·.1)).toArray=_;rw[show L.map (·.1)=live.map (·.1) from hL1 live fun x hx=>hi x.1 x.2 hx]
 ·rw[show L.map (·.1)=live.map (·.1) from hL1 live fun x hx=>hi x.1 x.2 hx];exact GP
 ·obtain⟨x,hx,h2⟩:=iX.mp he;obtain⟨e',_,rfl⟩:=p7.mp h2;have:=(qu (j:=x.1) (i:=x.2)).mp hx;show x.1<=mask;lia
 ·obtain⟨x,hx,h2⟩:=iX.mp he;obtain⟨e',h3,rfl⟩:=p7.mp h2;obtain⟨hh,a1,s,a2,a3⟩:=g.reach x.1 x.2 hx;simp only[cf,h3,nK,Option.some.injEq]at a1;subst a1;have pm:∀s,pos t1 e'.1 s=pos t0 e'.1 s:=fun s=>Ra (t:=t1) (t':=t0) rfl _ s;refine⟨s,by rw[pm];exact a2,fun s' hs=>?_⟩;have nn:=a3 s' hs;have hlt:pos t0 e'.1 s' < mask + 1:=Nat.lt_succ_of_le (acK t0 e'.1 s');cases z:owner.getD (pos t0 e'.1 s') none with
  |none =>
   refine absurd ?_ nn;have hl:pos t0 e'.1 s' < owner.size:=by rw[g.sz];exact hlt
   simp only[jJ,gS,hl,dif_pos]at z ⊢;exact z
  |some i =>
   have hm:(pos t0 e'.1 s',i)∈live:=qu.mpr ⟨hlt,z⟩;obtain⟨e2,he2⟩:=hi _ _ hm;refine⟨(pos t0 e'.1 s',e2),iX.mpr ⟨_,hm,by rw[he2];rfl⟩,by rw[pm]⟩
 ·rw[show L.map (·.2)=(live.map (·.2)).filterMap fun i=>es[i]? from hL2 live];simp
end Tb
namespace Tb
open PySem PySem.Spec PySem.SetTable
abbrev TK(prog:aE)(w:ay):=mS (cb prog w)
abbrev hK(prog:aE)(w:ay)(ks:List Int):Int:=tupleKeyHash (cb prog w) ks
def ajs(prog:aE)(w:ay)(h:Heap)(e:rD)(ks:List Int):Prop:=∃b,e.2.2=.ref b/\cK (cb prog w) h ks b/\e.2.1=hK prog w ks
section
variable{prog:aE}{w:ay}{A:a8}{E:aa->ae->Prop}{s:ae}
theorem Ls{n:Nat}{v:aa}(h:p9 v=true):p_ n v=pure false:=by
 cases v with
 |ref a=>simp[p9]at h
 |_=>first|rfl|(unfold p_;rfl)
theorem wG{ks:List Int}{b:ab}{Q:Bool->ae->Prop}(hk:cK (cb prog w) s.heap ks b)(h:Q false s):ai (ar prog w) A (p_ 8 (.ref b)) Q E s:=by
 have hT:=hk.typeIs;obtain⟨o,items,n,ho,hc,hd,hi⟩:=hk;unfold p_;refine af (l5 hT ?_);simp only[beq_self_eq_true,if_true];refine af (az ?_);simp only[eC,bq,if_false];refine af (l6 ho hd ?_);refine af ?_;show ai _ _ (forIn items _ _) _ _ s;rw[<- Array.forIn_toList];refine tw _ (fun rest r s'=>r.1=none/\s'=s/\∀v∈rest,p9 v=true) _ ?_ ?_ _ _ ⟨rfl,rfl,hi.byValue⟩
 ·rintro v rest r s' ⟨hr,rfl,hall⟩;rw[Ls (hall v df)];refine af (az ?_);simp only[bq,if_false];exact az ⟨rfl,rfl,fun u hu'=>hall u (dt _ hu')⟩
 ·rintro⟨r1,r2⟩ s' ⟨hr,rfl,_⟩;simp only at hr;subst hr;exact az h
theorem afP{ks:List Int}{b:ab}{Q:Bool->ae->Prop}(hk:cK (cb prog w) s.heap ks b)(ys:List aa)(hy:∀y∈ys,∃k' b',y=.ref b'/\cK (cb prog w) s.heap k' b')(h:Q false s) :
  ai (ar prog w) A (searchCouldBeSeen (.ref b) ys) Q E s:=by
 unfold searchCouldBeSeen;refine af ?_;refine tw _ (fun rest r s'=>r.1=none/\s'=s/\∀y∈rest,∃k' b',y=.ref b'/\cK (cb prog w) s.heap k' b') _ ?_ ?_ _ _ ⟨rfl,rfl,hy⟩
 ·rintro v rest r s' ⟨hr,rfl,hall⟩;obtain⟨k',b',rfl,hk'⟩:=hall v df;have YW:∀y∈rest,∃k' b',y=aa.ref b'/\cK (cb prog w) s'.heap k' b':=fun y hy=>hall y (dt _ hy);dsimp only;by_cases c:b=b'
  ·subst c;simp only[beq_self_eq_true,Bool.true_or,if_true];exact az ⟨rfl,rfl,YW⟩
  ·have hc:(b == b')=false:=by simpa using c
   simp only[hc,p9,Bool.false_and,qa,bq,if_false];refine af (wpAny_eqIsQuiet_tuple hk ?_);simp only[eC,bq,if_false];refine af (wpAny_eqIsQuiet_tuple hk' ?_);simp only[eC,bq,if_false];refine af (wG hk ?_);simp only[bq,if_false];refine af (wG hk' ?_);simp only[bq,if_false];exact az ⟨rfl,rfl,YW⟩
 ·rintro⟨r1,r2⟩ s' ⟨hr,rfl,_⟩;simp only at hr;subst hr;exact az h
theorem Rf{a:ab}{Q:Bool->ae->Prop}(h:Q true s):ai (ar prog w) A (isSame (.ref a) (.ref a)) Q E s:=by unfold isSame;simp only[beq_self_eq_true,if_true];exact az h
end
section
variable{prog:aE}{w:ay}{A:a8}{E:aa->ae->Prop}{s:ae}
abbrev gC(L:List rD)(ep:Nat)(t:bE):Obj:={ cls:=.type "set",dict:=none,data:=.set (L.map (·.2)).toArray ep t }
theorem Good.fits{t:bE}{L:List rD}(g:Good t L)(hl:L.length<=t.mask):t.fits ((L.map (·.2)).toArray).size=true:=by
 unfold i7.fits;have h1:t.fill<=t.mask:=by unfold fill;rw[g.nd,g.sz];simpa using hl
 simp[g.sz,h1]
theorem Good.odd{t:bE}{L:List rD}(g:Good t L):t.gaveWay=false:=by
 obtain⟨k,hk⟩:=g.pw;have h7:=g.m7;unfold gaveWay;cases k with
 |zero=>simp at hk;lia
 |succ k =>
  have:t.mask % 2=1:=by rw[lI]at hk;lia
  simp[this]
theorem Wk{a b:ab}{ks:List Int}{L:List rD}{ep:Nat}{t:bE}{f:rD->List Int}{Q:SetFound->ae->Prop}(ho:s.heap.get? a=some (gC L ep t))(g:Good t L)(hl:L.length<=t.mask)(hf:∀e∈L,ajs prog w s.heap e (f e))
  (hb:cK (cb prog w) s.heap ks b) (hu:A.units < bo) (q1:(∃e∈L,f e=ks)->Q (.there none) s)
  (q2:∀j,j<=t.mask->¬DW t j->(∃n,pos t (hK prog w ks) n=j/\∀n',n' < n->∃e'∈L,e'.1=pos t (hK prog w ks) n')->(∀e∈L,f e≠ks)->Q (.free j false) s) :
  ∀(fuel s0 sE:Nat) (Wm:Option Probe),s0<=sE->sE < s0 + fuel->sE < s0 + 10 * turns t.mask->¬DW t (pos t (hK prog w ks) sE)->Wm.getD (t.probeStart (hK prog w ks))=rB t s0 (t.probeStart (hK prog w ks)) ->
   (∀n,n < s0->∃e∈L,e.1=pos t (hK prog w ks) n/\f e≠ks)->ai (ar prog w) A (qc a (.ref b) (hK prog w ks) true fuel Wm) Q E s:=by
 intro fuel
 induction fuel with
 |zero=>intro s0 sE _ h1 h2;lia
 |succ fuel ih =>
  intro s0 sE Wm h1 h2 h2' hE hst hpre;unfold qc;refine af (j6 ho rfl (g.fits hl) ?_);simp only[g.odd,bq,if_false];obtain⟨s2,a1,a2,a3,a4⟩:=acH g.rise g.nd (fun i=>((((L.map (·.2)).toArray)[i]?).map (·.1)).getD 0) (hK prog w ks) (10 * turns t.mask) s0 sE h1 h2' hE;have hh:∀i (hi:i < L.length),((((L.map (·.2)).toArray)[i]?).map (·.1)).getD 0=L[i].2.1:=fun i hi=>by simp[hi]
  have passed:∀n,n < s2->∃e∈L,e.1=pos t (hK prog w ks) n/\f e≠ks:=fun n hn=>by
   by_cases c:n < s0
   ·exact hpre n c
   ·obtain⟨i,hi,e1,e2⟩:=a3 n (by lia) hn;rw[g.sz]at hi;rw[g.at hi]at e1;rw[hh i hi]at e2;refine⟨L[i],eB hi,e1,fun z=>e2 ?_⟩;obtain⟨b',_,_,e3⟩:=hf _ (eB hi);rw[e3,z]
  rcases a4 with ⟨hne,hp⟩|⟨i,hi,e1,e2,hp⟩
  ·-- an empty slot
   have hp':t.probe (fun i=>((((L.map (·.2)).toArray)[i]?).map (·.1)).getD 0) (hK prog w ks) (Wm.getD (t.probeStart (hK prog w ks)))=some (.empty (pos t (hK prog w ks) s2) none):=by rw[hst];exact hp
   generalize hr:t.probe _ (hK prog w ks) (Wm.getD (t.probeStart (hK prog w ks)))=r;obtain rfl:r=_:=hr.symm.trans hp';simp only;refine az (q2 _ (acK t _ _) hne ⟨s2,rfl,fun n hn=>?_⟩ fun e he z=>?_)
   ·obtain⟨e,he,q,_⟩:=passed n hn;exact⟨e,he,q⟩
   ·obtain⟨b',_,_,e3⟩:=hf e he;obtain⟨n,r1,r2⟩:=g.reach e he;rw[e3,z]at r1 r2;by_cases c:n < s2
    ·obtain⟨e',he',q,ne⟩:=passed n c;have:=g.uniq he' he (q.trans r1);subst this;exact ne z
    ·by_cases d:s2 < n
     ·obtain⟨e',he',q⟩:=r2 s2 d;exact hne (g.live.mpr ⟨e',he',q⟩)
     ·obtain rfl:n=s2:=by lia
      exact hne (g.live.mpr ⟨e,he,r1.symm⟩)
  ·-- a key with the same hash
   rw[g.sz]at hi;have e1':=e1;rw[g.at hi]at e1;obtain⟨b',hv,hk',hx⟩:=hf _ (eB hi);have hp':t.probe (fun i=>((((L.map (·.2)).toArray)[i]?).map (·.1)).getD 0) (hK prog w ks) (Wm.getD (t.probeStart (hK prog w ks)))=some (.candidate (pos t (hK prog w ks) s2) i (rB t (s2 + 1) (t.probeStart (hK prog w ks)))):=by rw[hst];exact hp
   generalize hr:t.probe _ (hK prog w ks) (Wm.getD (t.probeStart (hK prog w ks)))=r;obtain rfl:r=_:=hr.symm.trans hp';simp only;have ei:((L.map (·.2)).toArray)[i]?=some (L[i].2.1,.ref b'):=by
    have:((L.map (·.2)).toArray)[i]?=some L[i].2:=by simp[hi]
    rw[this,<- hv]
   have rest:ai (ar prog w) A (do
     let some (_,y):=((L.map (·.2)).toArray)[i]?|unsupported "internal:set-entry"
     let equal <- du [y] (eqBool y (.ref b))
     let (es',_,t') <- setState a
     if true && equal then return .there none
     let some same:=t'.sameMemory t.moves t.mask|unsupported "set.changed-during-lookup:is-the-new-block-at-the-old-address"
     let still <- match (if same then t'.slot (pos t (hK prog w ks) s2) else .empty) with
      | .live i'=>match es'[i']? with
       |some (_,y')=>do pure (if <- isSame y' y then some i' else none)
       |none=>pure none
      |_=>pure none
     match still with
     |none=>rule "set.search.anew";qc a (.ref b) (hK prog w ks) true fuel none
     |some i'=>if equal then return .there (some i') else qc a (.ref b) (hK prog w ks) true fuel (some (rB t (s2 + 1) (t.probeStart (hK prog w ks))))) Q E s:=by
    rw[ei];simp only;refine af (ez ((TK prog w).eqBool hu hk' hb ?_));refine af (j6 ho rfl (g.fits hl) ?_);by_cases c:f L[i]=ks
    ·simp only[c,decide_true,Bool.and_self,if_true];exact az (q1 ⟨_,eB hi,c⟩)
    ·simp only[c,decide_false,nz,bq,if_false];have hsm:t.sameMemory t.moves t.mask=some true:=by unfold sameMemory;simp
     rw[hsm];simp only[if_true];have hsl:t.slot (pos t (hK prog w ks) s2)=.live i:=by rw[<- e1'];exact Jw g.rise (by rw[g.sz];exact hi)
     rw[hsl];simp only[ei];refine af (Rf (af (az ?_)));simp only[if_true];have hne:s2≠sE:=fun z=>hE (z▸g.live.mpr ⟨_,eB hi,e1⟩);refine ih (s2 + 1) sE _ (by lia) (by lia) (by lia) hE rfl fun n hn=>?_;by_cases d:n=s2
     ·subst d;exact⟨_,eB hi,e1,c⟩
     ·exact passed n (by lia)
   cases aqO:t.led with
   |true=>simp only[eC,bq,if_false];exact rest
   |false =>
    simp only[nL,if_true];refine af (afP hb _ (fun y hy=>?_) ?_)
    ·obtain⟨e,he,rfl⟩:=c8.mp hy;have he':e∈(L.map (·.2)):=by have:=Array.mem_toList_iff.mp he;have:=(Array.mem_filter.mp this).1;simpa using this
     obtain⟨e0,h0,rfl⟩:=c8.mp he';obtain⟨b2,hv2,hk2,_⟩:=hf e0 h0;exact⟨_,b2,hv2,hk2⟩
    ·simp only[bq,if_false];exact rest
end
section
variable{prog:aE}{w:ay}{A:a8}{E:aa->ae->Prop}{s:ae}
theorem Rg{ks:List Int}{b:ab}{Q:Bool->ae->Prop}(hk:cK (cb prog w) s.heap ks b)(h:Q true s):ai (ar prog w) A (qf 8 (.ref b)) Q E s:=by
 have hT:=hk.typeIs;obtain⟨o,items,n,ho,hc,hd,hi⟩:=hk;have allI:∀v∈items.toList,∃i t,v=.int i t:=by
  clear hd;generalize items.toList=l at hi
  induction hi with
  |nil=>intro v hv;cases hv
  |cons h1 _ ih =>
   intro v hv;rcases bz.mp hv with rfl|hv
   ·cases v with
    |int i t=>exact⟨i,t,rfl⟩
    |_=>simp[cb,aa.isInt]at h1
   ·exact ih v hv
 unfold qf;refine af (l8 hT F.slot_tuple_hash.lookup ?_);simp only;refine af (l6 ho hd ?_);simp only[nN];refine af ?_;rw[<- Array.forIn_toList];refine tw _ (fun rest r s'=>r.1=none/\s'=s/\∀v∈rest,∃i t,v=.int i t) _ ?_ ?_ _ _ ⟨rfl,rfl,allI⟩
 ·rintro v rest r s' ⟨hr,rfl,hall⟩;obtain⟨i,t,rfl⟩:=hall v df;have:qf 7 (.int i t)=pure true:=by unfold qf;rfl
  rw[this];refine af (az ?_);simp only[eC,bq,if_false];exact az ⟨rfl,rfl,fun u hu'=>hall u (dt _ hu')⟩
 ·rintro⟨r1,r2⟩ s' ⟨hr,rfl,_⟩;simp only at hr;subst hr;exact az h
abbrev Gz(w:ay):Bool:=w.params.followText "set-order"
def eU(prog:aE)(w:ay)(U:ab->List Int->Prop)(h:Heap)(a:ab)(bf:List (List Int)):Prop :=
 ∃(L:List rD) (ep:Nat) (t:bE) (f:Int×aa->List Int),h.get? a=some (gC L ep t)/\Good t L/\L.length * 5 < t.mask * 3/\t.mask < 8000/\(t.plain=true/\t.led=!Gz w)/\(∀e∈L,ajs prog w h e (f e.2))/\(L.map fun e=>f e.2).Perm bf/\bf.Nodup/\∀e∈L,∀b,e.2.2=.ref b->U b (f e.2)
theorem DX{h h':Heap}{a:ab}{L:List rD}{ep:Nat}{t:bE}{ks:List Int}{b:ab}(ho:h.get? a=some (gC L ep t))(hs:et a h h')(hk:cK (cb prog w) h ks b):cK (cb prog w) h' ks b:=by
 obtain⟨o,items,n,h1,h2,h3,h4⟩:=hk;have ne:b≠a:=fun z=>by subst z;rw[ho]at h1;cases h1;cases h3
 exact⟨o,items,n,(hs.2 b ne).trans h1,h2,h3,h4⟩
theorem Rh{a:ab}{L L':List rD}{ep:Nat}{t t':bE}{Q:Unit->ae->Prop}(ho:s.heap.get? a=some (gC L ep t))(hz:L'.length<=1000000)(h:∀h',et a s.heap h'->h'.get? a=some (gC L' (ep + 1) t')->Q () { s with heap:=h' }) :
  ai (ar prog w) A (storeSet a (L'.map (·.2)).toArray t') Q E s:=by
 refine wpAny_storeSet_of ho rfl (h _ (l9 s.heap a _) ?_) (by rw[dA];simp;lia);have hd:(gC L ep t).data=.set (L.map (·.2)).toArray ep t:=rfl;have:=fg (Obj.putSet (L'.map (·.2)).toArray t') ho (by rw[putSet_of _ _ hd];rfl);rw[putSet_of _ _ hd]at this;exact this
theorem acM{a:ab}{L:List rD}{ep:Nat}{t:bE}{Q:Unit->ae->Prop}(ho:s.heap.get? a=some (gC L ep t))(g:Good t L)(hl:L.length<=t.mask)(h1:1<=L.length)(hz:L.length<=1000)(hp:t.plain=true)
  (h:∀h' L' t',et a s.heap h'->h'.get? a=some (gC L' (ep + 1) t')->Good t' L'->L'.length * 5 < t'.mask * 3->(t'.mask=7∨t'.mask + 1<=8 * L'.length)->(t'.plain=true/\t'.led=t.led)->(L'.map (·.2)).Perm (L.map (·.2))->Q () { s with heap:=h' }) :
  ai (ar prog w) A (setRelay a (grown L.length)) Q E s:=by
 have hg:grown L.length=L.length * 4:=by unfold grown;rw[if_neg (by lia)]
 rw[hg];obtain⟨s1,s2,s3,s4⟩:=Lr (L.length * 4) (by lia);unfold setRelay;refine af (j6 ho rfl (g.fits hl) ?_);have hsz:¬sizeAbove (L.length * 4) > sizeLine:=by rw[dA];lia
 simp only[hsz,if_false];obtain⟨t',order,L',e1,e2,e3,e4,e5,g',e6,e7⟩:=aaA s1 s2 t.finger (t.movedTo (sizeAbove (L.length * 4) - 1)) t.led t.plain (L.map (·.2)) (by simp;lia);have hlen:L'.length=L.length:=by have:=e7.length_eq;simpa using this
 have er:t.relaid (((L.map (·.2)).toArray).map (·.1)) (L.length * 4)=some (t',order):=by
  unfold relaid;have:((L.map (·.2)).toArray).map (·.1)=((L.map (·.2)).map (·.1)).toArray:=by simp
  rw[this];exact e1
 have main:ai (ar prog w) A (do
   let some (t,order):=t.relaid (((L.map (·.2)).toArray).map (·.1)) (L.length * 4)|unsupported "internal:set-table-without-room"
   let es':=order.filterMap (((L.map (·.2)).toArray)[·]?)
   if es'.size != ((L.map (·.2)).toArray).size then unsupported "internal:set-table-lost-an-element"
   pure (es',t)) (fun r s'=>ai (ar prog w) A (storeSet a r.1 r.2) Q E s') E s:=by
  rw[er];simp only;rw[e6];have:((L'.map (·.2)).toArray.size != ((L.map (·.2)).toArray).size)=false:=by simp[hlen]
  rw[this];simp only[bq,if_false];refine az ?_;refine Rh (t':=t') ho (by lia) fun h' hs hg=>h h' L' t' hs hg g' (by rw[e2,hlen];lia) ?_ ⟨e4.trans hp,e3⟩ e7;rw[e2,hlen];rcases s4 with s4|s4
  ·exact .inl s4
  ·right;lia
 exact af main
end
section
variable{prog:aE}{w:ay}{U:ab->List Int->Prop}{A:a8}{E:aa->ae->Prop}{s:ae}
theorem eU.len{h:Heap}{a:ab}{bf:List (List Int)}(x:eU prog w U h a bf):∃(L:List rD) (ep:Nat) (t:bE),h.get? a=some (gC L ep t)/\L.length=bf.length:=by obtain⟨L,ep,t,f,ho,_,_,_,_,_,hp,_⟩:=x;exact⟨L,ep,t,ho,by have:=hp.length_eq;simpa using this⟩
theorem Lw{a b:ab}{ks:List Int}{bf:List (List Int)}{Q:Bool->ae->Prop}(hS:eU prog w U s.heap a bf)(hn:bf.length < 1000)(hb:cK (cb prog w) s.heap ks b)(hU:U b ks)(hu:A.units < bo)
  (h:∀h' added,et a s.heap h'->eU prog w U h' a (if ks∈bf then bf else ks::bf)->Q added { s with heap:=h' }):ai (ar prog w) A (setAddHashed a (.ref b) (hK prog w ks)) Q E s:=by
 have hS0:=hS;obtain⟨L,ep,t,f,ho,g,room,mb,⟨pl,ld⟩,hf,hp,nd,uu⟩:=hS;have hlen:L.length=bf.length:=by have:=hp.length_eq;simpa using this
 have h7:=g.m7;have hl:L.length<=t.mask:=by lia
 have apP:t.mask < 8000:=mb;have self:∀added,(ks∈bf)->Q added s:=fun added hm=>by have:=h s.heap added (et.refl a s.heap) (by rw[if_pos hm];exact hS0);cases s;exact this
 unfold setAddHashed;refine ez ?_;unfold setAddHashedIn;refine af (j6 ho rfl (g.fits hl) ?_);have hby:byScan (.ref b) (L.map (·.2)).toArray=false:=by simp[byScan,aa.scannable]
 simp only[hby,bq,if_false];obtain⟨e0,he0,hE0⟩:=Wh g.rise (by rw[g.sz];exact hl);obtain⟨k,hk⟩:=g.pw;obtain⟨sE,_,hsE,pE⟩:=afM hk (hK prog w ks) 0 he0;refine af ?_;unfold setSearch;refine Wk (f:=fun e=>f e.2) (Q:=fun r s'=>ai (ar prog w) A (match r with
  | .free slot wasDummy=>_
  |_=>_) Q E s') ho g hl hf hb hu (fun hm=>?_) (fun j hj hnl hr hno=>?_) 100000 0 sE none (d7 _) (by lia) (by unfold turns;lia) (by rw[pE];exact hE0) rfl (fun n hn=>absurd hn (by lia))
 ·obtain⟨e,he,q⟩:=hm;exact az (self false (hp.mem_iff.mp (c8.mpr ⟨e,he,q⟩)))
 ·have hnk:¬ks∈bf:=fun z=>by obtain⟨e,he,q⟩:=c8.mp (hp.mem_iff.mpr z);exact hno e he q
  obtain⟨p1,g'⟩:=g.put (h:=hK prog w ks) (x:=.ref b) hj hnl hr;simp only;refine af (j6 ho rfl (g.fits hl) ?_);have epl:(t.put j).1.plain=true:=by rw[Ln t g.nd];exact pl
  have emk:(t.put j).1.mask=t.mask:=by rw[Ln t g.nd]
  have eld:(t.put j).1.led=!Gz w:=by rw[Ln t g.nd];exact ld
  generalize hpt:t.put j=tp at p1 g' epl emk eld;obtain⟨t',p⟩:=tp;simp only at p1 g' epl emk eld ⊢;simp only[epl,if_true];refine af (Rg hb ?_);simp only[if_true];have ein:insertAt (L.map (·.2)).toArray p (hK prog w ks,aa.ref b)=((L.take p++(j,hK prog w ks,aa.ref b)::L.drop p).map (·.2)).toArray:=by rw[uN _ _ (by simpa using p1)];simp[s_,td]
  rw[ein];generalize hL':L.take p++(j,hK prog w ks,aa.ref b)::L.drop p=L' at g' ⊢;have hlen':L'.length=L.length + 1:=by rw[<- hL'];simp;lia
  have acN:L'.Perm ((j,hK prog w ks,aa.ref b)::L):=by rw[<- hL'];refine(List.perm_middle).trans ?_;rw[l4]
  have hfj:∀e∈L,e.2≠(hK prog w ks,aa.ref b):=fun e he z=>by obtain⟨b',h1,h2,h3⟩:=hf e he;rw[z]at h1;cases h1;exact hno e he (h2.inj hb)
  let f':Int×aa->List Int:=fun x=>if x=(hK prog w ks,aa.ref b) then ks else f x
  have keys:∀{h':Heap},et a s.heap h'->∀e∈L',ajs prog w h' e (f' e.2):=fun {h'} hs e he=>by
   rcases bz.mp (acN.mem_iff.mp he) with z|z
   ·subst z;exact⟨b,rfl,by simp only[f',if_true];exact DX ho hs hb,by simp only[f',if_true]⟩
   ·obtain⟨b',h1,h2,h3⟩:=hf e z;have:f' e.2=f e.2:=by simp only[f'];rw[if_neg (hfj e z)]
    exact⟨b',h1,by rw[this];exact DX ho hs h2,by rw[this];exact h3⟩
  have ahJ:(L'.map fun e=>f' e.2).Perm (ks::bf):=by
   refine(acN.map _).trans ?_;simp only[b_,f',if_true];refine g7.cons _ ?_;have:(L.map fun e=>if e.2=(hK prog w ks,aa.ref b) then ks else f e.2)=L.map fun e=>f e.2:=nS fun e he=>by rw[if_neg (hfj e he)]
   rw[this];exact hp
  have nd':(ks::bf).Nodup:=jn.mpr ⟨hnk,nd⟩;have uu':∀e∈L',∀c,e.2.2=.ref c->U c (f' e.2):=fun e he c ec=>by
   rcases bz.mp (acN.mem_iff.mp he) with z|z
   ·subst z;cases ec;simp only[f',if_true];exact hU
   ·rw[show f' e.2=f e.2 by simp only[f'];rw[if_neg (hfj e z)]];exact uu e z c ec
  refine af (Rh (t':=t') ho (by lia) fun h1 hs1 ho1=>?_);have hfill:t'.fill=L'.length:=by unfold fill;rw[g'.nd,g'.sz];simp
  have esz:(L.map (·.2)).toArray.size + 1=L'.length:=by simp[hlen']
  cases htf:t'.tooFull with
  |false =>
   simp only[nL,nz,bq,if_false];refine az (h h1 true hs1 ?_);rw[if_neg hnk];have hroom:L'.length * 5 < t'.mask * 3:=by unfold tooFull at htf;rw[hfill]at htf;simpa using htf
   exact⟨L',ep + 1,t',f',ho1,g',hroom,by rw[emk];exact mb,⟨epl,eld⟩,keys hs1,ahJ,nd',uu'⟩
  |true =>
   simp only[nL,o6,if_true];rw[esz];refine af (acM (s:={ s with heap:=h1 }) ho1 g' (by rw[emk];lia) (by lia) (by lia) epl fun h2 L2 t2 hs2 ho2 g2 r2 m2 p2 pm2=>?_);refine az (h h2 true (hs1.trans hs2) ?_);rw[if_neg hnk];have hv:∀e∈L2,∃e1∈L',e1.2=e.2:=fun e he=>by have:e.2∈L'.map (·.2):=pm2.mem_iff.mp (c8.mpr ⟨e,he,rfl⟩);obtain⟨e1,h1,h2⟩:=c8.mp this;exact⟨e1,h1,h2⟩
   have hl2:L2.length=L'.length:=by have:=pm2.length_eq;simpa using this
   refine⟨L2,ep + 1 + 1,t2,f',ho2,g2,r2,(by rcases m2 with z|z <;> lia),⟨p2.1,p2.2.trans eld⟩,fun e he=>?_,?_,nd',fun e he c ec=>let ⟨e1,h1,q⟩:=hv e he;by rw[<- q];exact uu' e1 h1 c (by rw[q];exact ec)⟩
   ·obtain⟨e1,he1,q⟩:=hv e he;obtain⟨b',k1,k2,k3⟩:=keys (hs1.trans hs2) e1 he1;rw[q]at k1 k2 k3;exact⟨b',k1,k2,k3⟩
   ·have:=(pm2.map f')
    rw[eS,eS]at this;exact this.trans ahJ
theorem aaB{a b:ab}{ks:List Int}{bf:List (List Int)}{Q:Bool->ae->Prop}(hS:eU prog w U s.heap a bf)(hn:bf.length < 1000)(hb:cK (cb prog w) s.heap ks b)(hU:U b ks)(hu:A.units < bo)
  (h:∀h' added tk,et a s.heap h'->eU prog w U h' a (if ks∈bf then bf else ks::bf)->Q added { s with heap:=h',toks:=s.toks + tk }):ai (ar prog w) A (setAdd a (.ref b)) Q E s:=by
 unfold setAdd;refine ez (af (wpAny_pyHash_tuple hu hb ?_));exact Lw (s:={ s with toks:=s.toks + (ks.length + 1) }) hS hn hb hU hu fun h' added hs hS'=>h h' added _ hs hS'
end
def ins(acc:List (List Int))(k:List Int):List (List Int):=if k∈acc then acc else k::acc
def bW(l:List (List Int)):List (List Int):=l.foldl ins []
theorem afQ(acc:List (List Int))(k:List Int):(ins acc k).length<=acc.length + 1:=by unfold ins;split <;> simp
theorem vo(l:List (List Int)):(bW l).length<=l.length:=by
 unfold bW;have:∀(l acc:List (List Int)),(l.foldl ins acc).length<=acc.length + l.length:=by
  intro l
  induction l with
  |nil=>intro acc;simp
  |cons a l ih=>intro acc;rw[kx];have:=ih (ins acc a);have:=afQ acc a;simp only[cv];lia
 simpa using this l []
theorem ajt(acc:List (List Int))(k:List Int):acc.length<=(ins acc k).length:=by unfold ins;split <;> simp
theorem Ah(l:List (List Int))(k:List Int):bW (l++[k])=ins (bW l) k:=by unfold bW;rw[List.foldl_append];rfl
theorem Jx(l:List (List Int)):∀m,(bW l).length<=(bW (l++m)).length
 | []=>by simp
 |x::m=>by have:=Jx (l++[x]) m;rw[gN,List.singleton_append]at this;exact cx (by rw[Ah];exact ajt _ _) this
section
variable{prog:aE}{w:ay}{U:ab->List Int->Prop}{A:a8}{R:Result->ae->Prop}{I:ab}{fp wr:List ab}{G:Array kS->Array kS->Prop}{n:Nat}{P:Nat->aa->Prop}{St:Nat->ae->Prop}
theorem eU.moved{h h':Heap}{a:ab}{bf:List (List Int)}(x:eU prog w U h a bf)(k:∀b o,(b=a∨∃ks,cK (cb prog w) h ks b)->h.get? b=some o->h'.get? b=some o):eU prog w U h' a bf:=by obtain⟨L,ep,t,f,ho,g,room,mb,pl,hf,hp,nd⟩:=x;refine⟨L,ep,t,f,k _ _ (.inl rfl) ho,g,room,mb,pl,fun e he=>?_,hp,nd⟩;obtain⟨b,h1,h2,h3⟩:=hf e he;have h2':=h2;obtain⟨o,items,m,q1,q2,q3,q4⟩:=h2;exact⟨b,h1,⟨o,items,m,k _ _ (.inr ⟨_,h2'⟩) q1,q2,q3,q4⟩,h3⟩
theorem acO{h:Heap}{b c:ab}{ks:List Int}{o:Obj}(hk:cK (cb prog w) h ks b)(hc:h.get? c=some o)(hd:∀xs m,o.data≠.seq xs m):b≠c:=fun z=>by subst z;obtain⟨o',items,m,q1,q2,q3,q4⟩:=hk;rw[hc]at q1;cases q1;exact hd _ _ q3
theorem ahK(W:WalksS prog w A.in1 I fp wr G n P St)(D:ab)(hDf:D∉fp)(hu:A.in1.units < bo)(ks:Nat->List Int)(hn:(bW ((bu n).map ks)).length < 1000)(hwt:∀i s,St i s->∀b∈wr,∀o,s.heap.get? b=some o->∀xs m,o.data≠.seq xs m) :
  ∀(k i:Nat) (s:ae),n - i=k->i<=n->St i s->(∀j v,P j v->∃b,v=.ref b/\b∉wr/\cK (cb prog w) s.heap (ks j) b/\U b (ks j)) ->
   eU prog w U s.heap D (bW ((bu i).map ks)) ->
   (∀s',Moved (D::wr) G s s'->eU prog w U s'.heap D (bW ((bu n).map ks))->R (.ok (.ret .none)) s') ->
   fx (ar prog w) A (.builtin "set.update.loop" ⟨[.ref D,.ref I],[]⟩) R s:=by
 have hDw:D∉wr:=fun h=>hDf (W.sub _ h);have sub:∀b∈wr,b∈D::wr:=fun b hb=>dt _ hb;intro k
 induction k with
 |zero =>
  intro i s hk hi st hP hS hR;have hw:=hwt i s st;obtain rfl:i=n:=by lia
  refine g8 PyProof.Rows.F.entry_set_update_loop ?_;rw[iA tx _];show ai _ A.in1 (dS (.ref I) >>= _) _ _ s;refine af (W.done s _ _ st fun s1 hm=>?_);show ai _ A.in1 (ret aa.none) _ _ s1;refine az (hR s1 (hm.mono sub) (hS.moved fun b o hb e=>hm.heap b o (fun hbw=>?_) e));rcases hb with rfl|⟨k',hk'⟩
  ·exact hDw hbw
  ·exact acO hk' e (hw b hbw o e) rfl
 |succ k ih =>
  intro i s hk hi st hP hS hR;have hw:=hwt i s st;refine g8 PyProof.Rows.F.entry_set_update_loop ?_;rw[iA tx _];show ai _ A.in1 (dS (.ref I) >>= _) _ _ s;refine af (W.item i s _ _ (by lia) st fun v s1 hv st1 hm=>?_);have nw:∀b o,(b=D∨∃k',cK (cb prog w) s.heap k' b)->s.heap.get? b=some o->b∉wr:=fun b o hb e hbw=>by
   rcases hb with rfl|⟨k',hk'⟩
   ·exact hDw hbw
   ·exact acO hk' e (hw b hbw o e) rfl
  have key1:∀{b:ab}{k':List Int},cK (cb prog w) s.heap k' b->cK (cb prog w) s1.heap k' b:=fun {b k'} hk'=>by have hk0:=hk';obtain⟨o,items,m,q1,q2,q3,q4⟩:=hk';exact⟨o,items,m,hm.heap b o (nw b o (.inr ⟨_,hk0⟩) q1) q1,q2,q3,q4⟩
  have hS1:eU prog w U s1.heap D (bW ((bu i).map ks)):=hS.moved fun b o hb e=>hm.heap b o (nw b o hb e) e;obtain⟨b,rfl,hbw,hbk,hbU⟩:=hP i v hv;show ai _ A.in1 (du [aa.ref b] (setAdd D (.ref b)) >>= _) _ _ s1;have hlen:(bW ((bu i).map ks)).length < 1000:=by
   have e:bu n=bu i++(bu (n - i)).map (i + ·):=by rw[<- List.range_add];congr 1;lia
   rw[e,kC]at hn;exact i5 (Jx _ _) hn
  refine af (ez (aaB hS1 hlen (key1 hbk) hbU hu fun h2 added tk hs2 hS2=>?_));have hS2':eU prog w U h2 D (bW ((bu (i + 1)).map ks)):=by rw[List.range_succ,kC,List.map_singleton,Ah];exact hS2
  obtain⟨L1,ep1,t1,ho1,_⟩:=hS1.len;refine az ⟨gu tx _,ih (i + 1) _ (by lia) (by lia) (W.frame _ s1 _ _ st1 (tz _ _) fun b hb o e=>?_) (fun j v hv=>?_) hS2' fun s3 hm3 hS3=>?_⟩
  ·rw[hs2.2 b (fun z:b=D=>hDf (z▸hb))];exact e
  ·obtain⟨b,rfl,q1,q2,q3⟩:=hP j v hv;exact⟨b,rfl,q1,DX ho1 hs2 (key1 q2),q3⟩
  ·refine hR s3 (Moved.trans W.gtrans ((hm.mono sub).then_heap (tz _ _) fun b o hb e=>?_) hm3) hS3;rw[hs2.2 b (fun z:b=D=>hb (by rw[z];exact df))];exact e
end
section
variable{prog:aE}{w:ay}{A:a8}{E:aa->ae->Prop}{s:ae}
abbrev eV(led:Bool):Obj:={ cls:=.type "set",dict:=none,data:=.set #[] 0 (.fresh 0 0 led) }
theorem acP(v:aa){Q₁:aa->ae->Prop}(h:Q₁ (.ref s.heap.objs.size) { s with heap:=s.heap.push (eV (!Gz w)) }) :
  fx (ar prog w) A (.call (.builtin "set.__new__") ⟨[.type "set",v],[]⟩) (wants Q₁ E) s:=by
 refine codeAny_of_tree ?_;show ai _ A.in1 (do { checkBuiltinCall "set.__new__" ⟨[.type "set",v],[]⟩;again (.builtin "set.__new__" ⟨[.type "set",v],[]⟩) }) _ _ s;refine af (iE (F.newCall_set_1 v) (az ⟨gu F.plain_set_new _,g8 F.entry_set_new ?_⟩));rw[iA F.plain_set_new _];have e:=sub_set_self;obtain⟨hp,g,d,tk,os⟩:=s;unfold Builtin.«set.__new__» cq.Frozenset.newClass;dsimp only
 wp_walk
 refine nV (az ?_);simp only[newObj];exact af (wpAny_alloc (az (az h)))
theorem Ri{v:aa}{Q:aa->ae->Prop}
  (hup:ai (ar prog w) A.in1.in1 (l_ "set.__init__" s.heap.objs.size v) (fun _ s2=>Q (.ref s.heap.objs.size) s2) E { s with heap:=s.heap.push (eV (!Gz w)) }) :
  ai (ar prog w) A (call (.type "set") [v]) Q E s:=by
 obtain⟨cc,tl,hmro⟩:=j7.mro;have hmade:=j7.made;have hsub:=j7.sub;have nt:=j7.notType;have cc:=j7.canCreate;have tc:=F.typeCall_set_1 v;refine o_ (codeAny_of_tree ?_);show ai _ _ (callAny (.type "set") _) _ _ _;refine az ⟨Code.quiet_builtin _ (by decide+kernel),g8 F.entry_type_call ?_⟩;rw[a8.under_plain (weight_type_call_type "set" [v] []) rfl]
 repeat (any_goals (first|assumption|wp_step))
 refine lh (acP v (E:=E) (Q₁:=fun obj s1=>obj=.ref s.heap.objs.size/\s1={ s with heap:=s.heap.push (eV (!Gz w)) }) ⟨rfl,rfl⟩) fun r s1 hr=>?_;cases r with
 |error e=>exact hr
 |ok fl =>
  cases fl with
  |ret obj =>
   obtain⟨e1,e2⟩:=hr;subst e1 e2;have hget:(s.heap.push (eV (!Gz w))).get? s.heap.objs.size=some (eV (!Gz w)):=cy _ rfl;have hty:tJ { s with heap:=s.heap.push (eV (!Gz w)) } (.ref s.heap.objs.size) "set":=⟨_,hget,rfl⟩
   have li:=j7.init.lookup;have bi:=j7.init.bind (.ref s.heap.objs.size)
   repeat (any_goals (first|assumption|wp_step))
   refine lh (codeAny_call_builtin (R:=wants (fun r s2=>r=.none/\Q (.ref s.heap.objs.size) s2) E) j7.init.plain F.entry_set_init (check_set_init_1 hty ?_)) fun r2 s2 hr2=>?_
   ·unfold Builtin.«set.__init__» noKeywords;have hu:=hup;generalize hU:l_=U at hu ⊢
    wp_walk
    exact dQ hu (fun _ s2 hq=>az ⟨rfl,hq⟩) fun _ _ x=>x
   ·cases r2 with
    |error e=>exact hr2
    |ok fl2 =>
     cases fl2 with
     |ret r =>
      obtain⟨rfl,hq⟩:=hr2
      repeat (any_goals (first|assumption|wp_step))
     |_=>exact hr2.elim
  |_=>exact hr.elim
end
namespace F
theorem sub_tuple_set:isSubtype (.type "tuple") (.type "set")=pure false:=by rw[iF];kernel_rfl
theorem sub_tuple_frozenset:isSubtype (.type "tuple") (.type "frozenset")=pure false:=by rw[iF];kernel_rfl
end F
section
variable{prog:aE}{w:ay}{U:ab->List Int->Prop}{A:a8}{E:aa->ae->Prop}{s:ae}
theorem afR{h:Heap}{D:ab}(ho:h.get? D=some (eV (!Gz w))):eU prog w U h D []:=by
 have no:∀(e:rD) (p:Prop),e∈([]:List rD)->p:=fun e p he=>by cases he
 exact⟨[],0,.fresh 0 0 (!Gz w),fun _=>[],ho,⟨⟨3,rfl⟩,bj 7,rfl,rfl,ny.nil,fun e he=>no e _ he,fun e he=>no e _ he⟩,(show 0 < 21 by decide),(show(7:Nat) < 8000 by decide),⟨rfl,rfl⟩,fun e he=>no e _ he,g7.refl _,tN,fun e he=>no e _ he⟩
theorem Rj{l D:ab}{items:Array aa}{bf:List (List Int)}{Q:Unit->ae->Prop}(hh:A.handled=none)(hu:A.units + 2 < bo)(hl:s.heap.IsList l items)(hS:eU prog w U s.heap D [])(hlD:l≠D)(hz:(bW bf).length < 1000)
  (hk:∀(i:Nat) v,items[i]?=some v->∃b,v=.ref b/\cK (cb prog w) s.heap (bf.getD i []) b/\U b (bf.getD i [])) (hlen:bf.length=items.size)
  (h:∀h' tk,(∀b o,b≠D->s.heap.get? b=some o->h'.get? b=some o)->eU prog w U h' D (bW bf)->Q () { s with heap:=h',toks:=tk }) :
  ai (ar prog w) A (l_ "set.__init__" D (.ref l)) Q E s:=by
 have hl0:=hl;have er:(bu items.size).map (fun i=>bf.getD i [])=bf:=by
  rw[<- hlen];apply kD
  ·simp
  ·intro i h1 h2;simp at h1;simp[nX,h1]
 obtain⟨ol,hol,hcl,nl,hdl⟩:=hl;obtain⟨oc,od,odt,osl⟩:=ol;simp only at hcl hdl;subst hcl hdl;have e1:=F.sub_list_set;have e2:=F.sub_list_frozenset;have e3:(aa.type "list" == aa.type "dict")=false:=by decide
 unfold l_;generalize hPI:i_=PI
 wp_walk
 subst hPI;refine oP hl0 ?_;refine af (qh ?_);have hlt:l < s.heap.objs.size:=bg hol;obtain⟨L0,ep0,t0,hD0,_⟩:=hS.len;have su:D < s.heap.objs.size:=bg hD0;have push:∀b o,s.heap.get? b=some o->(s.heap.push { cls:=.type "list_iterator",data:=.fields #[.ref l,.int 0 0] }).get? b=some o:=fun b o e=>b0 _ e;have W:=(nE (prog:=prog) (w:=w) (A:=A.in1) (by simpa using hh) s.heap.objs.size l (bS hlt) items).toS;refine ahK W D (fun z=>?_) (by show A.units + 1 < bo;lia) (fun i=>bf.getD i []) (by rw[er];exact hz) (fun i s' st b hb o e xs m=>?_) (items.size - 0) 0 _ rfl (d7 _) ⟨⟨_,cy _ rfl,rfl,rfl⟩,hl0.push _⟩ (fun j v hv=>?_) (hS.moved fun b o _ e=>push b o e) fun s' hm hS'=>?_
 ·simp only[bz,gx,or_false]at z;rcases z with z|z
  ·exact absurd z (bS su)
  ·exact hlD z.symm
 ·obtain rfl:b=s.heap.objs.size:=by simpa using hb
  obtain⟨⟨o',h1,h2,h3⟩,_⟩:=st;rw[e]at h1;cases h1;rw[h3];intro z;cases z
 ·obtain⟨b,rfl,hb,hU⟩:=hk j v hv;have hb0:=hb;obtain⟨o,its,m,q1,q2,q3,q4⟩:=hb;refine⟨b,rfl,?_,⟨o,its,m,push _ _ q1,q2,q3,q4⟩,hU⟩;simp only[bz,gx,or_false];exact bS (bg q1)
 ·obtain⟨h',g',d',tk',os'⟩:=s';have eg:g'=s.gens:=hm.gens;have ed:d'=s.drawn:=hm.drawn;have eo:os'=s.os:=hm.os;subst eg ed eo;rw[er]at hS';refine az (h h' tk' (fun b o hb e=>hm.heap b o ?_ (push b o e)) hS');simp only[bz,gx,or_false,not_or];exact⟨hb,bS (bg e)⟩
theorem Lx{l D:ab}{items:Array aa}{bf:List (List Int)}{Q:Unit->ae->Prop}(hh:A.handled=none)(hu:A.units + 2 < bo)(hl:s.heap.IsTuple l items)(hS:eU prog w U s.heap D [])(hlD:l≠D)(hz:(bW bf).length < 1000)
  (hk:∀(i:Nat) v,items[i]?=some v->∃b,v=.ref b/\cK (cb prog w) s.heap (bf.getD i []) b/\U b (bf.getD i [])) (hlen:bf.length=items.size)
  (h:∀h' tk,(∀b o,b≠D->s.heap.get? b=some o->h'.get? b=some o)->eU prog w U h' D (bW bf)->Q () { s with heap:=h',toks:=tk }) :
  ai (ar prog w) A (l_ "set.__init__" D (.ref l)) Q E s:=by
 have hl0:=hl;have er:(bu items.size).map (fun i=>bf.getD i [])=bf:=by
  rw[<- hlen];apply kD
  ·simp
  ·intro i h1 h2;simp at h1;simp[nX,h1]
 obtain⟨ol,hol,hcl,nl,hdl⟩:=hl;obtain⟨oc,od,odt,osl⟩:=ol;simp only at hcl hdl;subst hcl hdl;have e1:=F.sub_tuple_set;have e2:=F.sub_tuple_frozenset;have e3:(aa.type "tuple" == aa.type "dict")=false:=by decide
 unfold l_;generalize hPI:i_=PI
 wp_walk
 subst hPI;refine wpAny_pyIter_tuple hl0 ?_;refine af (qh ?_);have hlt:l < s.heap.objs.size:=bg hol;obtain⟨L0,ep0,t0,hD0,_⟩:=hS.len;have su:D < s.heap.objs.size:=bg hD0;have push:∀b o,s.heap.get? b=some o->(s.heap.push { cls:=.type "tuple_iterator",data:=.fields #[.ref l,.int 0 0] }).get? b=some o:=fun b o e=>b0 _ e;have W:=(Walks.tuple (prog:=prog) (w:=w) (A:=A.in1) (by simpa using hh) s.heap.objs.size l (bS hlt) items).toS;refine ahK W D (fun z=>?_) (by show A.units + 1 < bo;lia) (fun i=>bf.getD i []) (by rw[er];exact hz) (fun i s' st b hb o e xs m=>?_) (items.size - 0) 0 _ rfl (d7 _) ⟨⟨_,cy _ rfl,rfl,rfl⟩,hl0.push _⟩ (fun j v hv=>?_) (hS.moved fun b o _ e=>push b o e) fun s' hm hS'=>?_
 ·simp only[bz,gx,or_false]at z;rcases z with z|z
  ·exact absurd z (bS su)
  ·exact hlD z.symm
 ·obtain rfl:b=s.heap.objs.size:=by simpa using hb
  obtain⟨⟨o',h1,h2,h3⟩,_⟩:=st;rw[e]at h1;cases h1;rw[h3];intro z;cases z
 ·obtain⟨b,rfl,hb,hU⟩:=hk j v hv;have hb0:=hb;obtain⟨o,its,m,q1,q2,q3,q4⟩:=hb;refine⟨b,rfl,?_,⟨o,its,m,push _ _ q1,q2,q3,q4⟩,hU⟩;simp only[bz,gx,or_false];exact bS (bg q1)
 ·obtain⟨h',g',d',tk',os'⟩:=s';have eg:g'=s.gens:=hm.gens;have ed:d'=s.drawn:=hm.drawn;have eo:os'=s.os:=hm.os;subst eg ed eo;rw[er]at hS';refine az (h h' tk' (fun b o hb e=>hm.heap b o ?_ (push b o e)) hS');simp only[bz,gx,or_false,not_or];exact⟨hb,bS (bg e)⟩
theorem Ly{l:ab}{items:Array aa}{bf:List (List Int)}{Q:aa->ae->Prop}(hh:A.handled=none)(hu:A.units + 8 < bo)(hl:s.heap.IsList l items∨s.heap.IsTuple l items)(hz:(bW bf).length < 1000)
  (hk:∀(i:Nat) v,items[i]?=some v->∃b,v=.ref b/\cK (cb prog w) s.heap (bf.getD i []) b/\U b (bf.getD i [])) (hlen:bf.length=items.size)
  (h:∀h' tk,(∀b o,s.heap.get? b=some o->h'.get? b=some o)->eU prog w U h' s.heap.objs.size (bW bf)->Q (.ref s.heap.objs.size) { s with heap:=h',toks:=tk }) :
  ai (ar prog w) A (call (.type "set") [.ref l]) Q E s:=by
 refine Ri ?_;have push:∀b o,s.heap.get? b=some o->(s.heap.push (eV (!Gz w))).get? b=some o:=fun b o e=>b0 _ e;have hlt:l < s.heap.objs.size:=by rcases hl with ⟨o,e,_⟩|⟨o,e,_⟩ <;> exact bg e
 have hk':∀(i:Nat) v,items[i]?=some v->∃b,v=.ref b/\cK (cb prog w) (s.heap.push (eV (!Gz w))) (bf.getD i []) b/\U b (bf.getD i []):=fun i v hv=>by obtain⟨b,e,⟨o,its,m,q1,q2,q3,q4⟩,hU⟩:=hk i v hv;exact⟨b,e,⟨o,its,m,push _ _ q1,q2,q3,q4⟩,hU⟩
 have hS:eU prog w U (s.heap.push (eV (!Gz w))) s.heap.objs.size []:=afR (cy _ rfl);have gD:∀h' tk,(∀b o,b≠s.heap.objs.size->(s.heap.push (eV (!Gz w))).get? b=some o->h'.get? b=some o)->eU prog w U h' s.heap.objs.size (bW bf)->Q (.ref s.heap.objs.size) { s with heap:=h',toks:=tk }:=fun h' tk k hS' =>
  h h' tk (fun b o e=>k b o (bS (bg e)) (push b o e)) hS'
 rcases hl with hl|hl
 ·exact Rj (s:={ s with heap:=s.heap.push (eV (!Gz w)) }) (by simpa using hh) (by show A.units + 1 + 1 + 2 < bo;lia) (hl.push _) hS (bS hlt) hz hk' hlen gD
 ·exact Lx (s:={ s with heap:=s.heap.push (eV (!Gz w)) }) (by simpa using hh) (by show A.units + 1 + 1 + 2 < bo;lia) (hl.push _) hS (bS hlt) hz hk' hlen gD
end
end Tb
namespace Tb
open PySem PySem.Spec PySem.SetTable
theorem DY{α:Type}:∀{l:List α}{n:Nat}(h:n < l.length),(l[n]::l.eraseIdx n).Perm l
 |a::l,0,_=>by simp
 |a::l,n + 1,h=>by have ih:=DY (l:=l) (n:=n) (by simpa using h);simp only[List.getElem_cons_succ,qi];exact(g7.swap ..).trans (ih.cons a)
theorem afS{α:Type}(next:Nat->Nat):∀(fuel k:Nat) (left:List α) (out:Array α),left.length<=fuel->(tP next fuel k left out).toList.Perm (out.toList++left):=by
 intro fuel
 induction fuel with
 |zero =>
  intro k left out h;obtain rfl:left=[]:=n4.mp (by lia);unfold tP;simp
 |succ fuel ih =>
  intro k left out h;unfold tP;cases left with
  |nil=>simp
  |cons a l =>
   have hlt:next k % (a::l).length < (a::l).length:=lL _ (by simp);rw[d4 hlt];simp only;have hlen:((a::l).eraseIdx (next k % (a::l).length)).length<=fuel:=by rw[List.length_eraseIdx_of_lt hlt];simp only[cv]at h ⊢;lia
   refine(ih (k + 1) _ _ hlen).trans ?_;rw[pT,gN];exact n5 _ (DY hlt)
theorem aaC{α:Type}(next:Nat->Nat)(xs:Array α):(t9 next xs).toList.Perm xs.toList:=by unfold t9;simpa using afS next xs.size 0 xs.toList #[] (by simp)
def oJ(w:ay)(D:ab)(ep:Nat)(L:List rD):Array (Int×aa):=if Gz w=true then t9 (w.params.setOrder D ep) (L.map (·.2)).toArray else (L.map (·.2)).toArray
theorem Jy(w:ay)(D:ab)(ep:Nat)(L:List rD):(oJ w D ep L).toList.Perm (L.map (·.2)):=by
 unfold oJ;split
 ·simpa using aaC (w.params.setOrder D ep) (L.map (·.2)).toArray
 ·exact .refl _
theorem uo(w:ay)(D:ab)(ep:Nat)(L:List rD):(oJ w D ep L).size=L.length:=by have:=(Jy w D ep L).length_eq;simpa using this
structure Lies (t:bE)(L:List rD):Prop where
 pl:t.place=(L.map (·.1)).toArray
 so:(L.map (·.1)).Pairwise (· < ·)
 fl:t.fill<=t.mask
theorem Lies.sz{t:bE}{L:List rD}(g:Lies t L):t.place.size=L.length:=by rw[g.pl];simp
theorem Lies.at{t:bE}{L:List rD}(g:Lies t L){i:Nat}(hi:i < L.length):t.place.getD i 0=L[i].1:=by rw[g.pl];simp[gS,hi]
theorem Lies.rise{t:bE}{L:List rD}(g:Lies t L):DR t.place:=by intro a b hab hb;rw[g.sz]at hb;rw[g.at (show a < L.length by lia),g.at hb];have:=(j3.mp g.so) a b (by simpa using(show a < L.length by lia)) (by simpa using hb) hab;simpa using this
theorem Lies.fits{t:bE}{L:List rD}(g:Lies t L)(hl:L.length<=t.mask):t.fits ((L.map (·.2)).toArray).size=true:=by unfold i7.fits;have h1:=g.fl;simp[g.sz,h1]
theorem Good.lies{t:bE}{L:List rD}(g:Good t L)(hl:L.length<=t.mask):Lies t L:=⟨g.pl,g.so,by unfold fill;rw[g.nd,g.sz];simpa using hl⟩
def iJ(w:ay)(t:bE)(i:Nat):Nat:=if Gz w=true then 0 else if i=0 then 0 else t.place.getD (i - 1) 0 + 1
section
variable{prog:aE}{w:ay}{A:a8}{E:aa->ae->Prop}{s:ae}
theorem YX{D:ab}{L:List rD}{ep:Nat}{t:bE}{i:Nat}{Q:Option (aa×Nat)->ae->Prop}(ho:s.heap.get? D=some (gC L ep t))(g:Lies t L)(hl:L.length<=t.mask)(pl:t.plain=true)(ld:t.led=!Gz w)(hi:i<=L.length)
  (h:Q (((oJ w D ep L)[i]?).map fun e=>(e.2,iJ w t (i + 1))) s):ai (ar prog w) A (setNext D (iJ w t i) i ep) Q E s:=by
 unfold setNext;refine af (j6 ho rfl (g.fits hl) ?_);unfold setsByText;refine af (af (nV (az ?_)));cases hb:Gz w with
 |true =>
  have hb':((ar prog w).w.params.followText "set-order")=true:=hb;simp only[hb',if_true,bne_self_eq_false,bq,if_false];unfold setWalk setsByText;refine af (af (j6 ho rfl (g.fits hl) ?_));refine af (af (nV (az ?_)));simp only[hb',if_true];refine af (nV (az (az ?_)));unfold oJ iJ at h;simp only[hb,if_true]at h;simp only[iJ,hb,if_true];exact h
 |false =>
  have hb':((ar prog w).w.params.followText "set-order")=false:=hb;simp only[hb',bq,if_false];rw[hb]at ld;have hbl:below t.place (iJ w t i)=i:=by
   unfold iJ;rw[hb];simp only[bq,if_false];obtain⟨b1,b2,b3⟩:=vm g.rise (if i=0 then 0 else t.place.getD (i - 1) 0 + 1);by_cases c:i=0
   ·subst c;simp only[if_true]at b2 ⊢;cases hz:below t.place 0 with
    |zero=>rfl
    |succ n=>have:=b2 0 (by lia);lia
   ·rw[if_neg c]at b1 b2 b3 ⊢;have him:i - 1 < t.place.size:=by rw[g.sz];lia
    have c1:¬below t.place (t.place.getD (i - 1) 0 + 1) < i:=fun z=>by have:=b3 (i - 1) (by lia) him;lia
    have c2:¬i < below t.place (t.place.getD (i - 1) 0 + 1):=fun z=>by have h1:=b2 i z;have h2:=g.rise (i - 1) i (by lia) (by lia);lia
    lia
  have gD:ai (ar prog w) A (pure (match ((L.map (·.2)).toArray)[below t.place (iJ w t i)]?,t.place[below t.place (iJ w t i)]? with
    |some (_,x),some j=>some (x,j + 1)
    |_,_=>none):Sem (Option (aa×Nat))) Q E s:=by
   rw[hbl];refine az ?_;unfold oJ iJ at h;simp only[hb,bq,if_false,Nat.add_eq_zero_iff,t_,and_false,Nat.add_sub_cancel]at h;by_cases c:i < L.length
   ·have e1:((L.map (·.2)).toArray)[i]?=some L[i].2:=by simp[c]
    have e2:t.place[i]?=some (t.place.getD i 0):=QZ (by rw[g.sz];exact c);rw[e1]at h ⊢;rw[e2];exact h
   ·have e1:((L.map (·.2)).toArray)[i]?=none:=by simp;lia
    rw[e1]at h ⊢;exact h
  have hdr:∀c:Bool,(!t.plain && c)=false:=fun c=>by rw[pl];rfl
  have hld:∀c:Bool,(!t.led && c)=false:=fun c=>by rw[ld];rfl
  have drop:∀{c:Bool}{x y:Sem (Option (aa×Nat))},c=false->ai (ar prog w) A y Q E s->ai (ar prog w) A (if c=true then x else y) Q E s:=fun {c x y} hc hy=>by rw[hc];exact hy
  refine drop (hdr _) ?_;refine af ?_;show ai _ _ (if (!t.led && !((L.map (·.2)).toArray).isEmpty)=true then unsupported "set:maker-not-led" else pure ()) _ _ _;rw[hld];exact az gD
end
theorem gk:Slot "set_iterator" "__next__" "set_iterator.__next__" :=
 .of (owner:="set_iterator") (n:="__next__") (by rw[md,me];kernel_rfl) (by decide+kernel) (by decide+kernel) (by decide+kernel) (by first|exact .inl (by decide+kernel)|exact .inr (by decide+kernel)) (by rw[iF];kernel_rfl)
theorem sy:n6 table "set_iterator.__next__"=some Builtin.«set_iterator.__next__»:=entryFor_of_tree (by kernel_rfl)
theorem uO(a:aa):iL "set_iterator.__next__" ⟨[a],[]⟩:=by unfold iL;kernel_rfl
theorem Lz:n6 table "set.__iter__"=some Builtin.«frozenset.__iter__»:=ue (id':="frozenset.__iter__") (by kernel_rfl) rfl (by decide+kernel) (by kernel_rfl)
theorem uP:Slot "set_iterator" "__iter__" "set_iterator.__iter__" :=
 .of (owner:="set_iterator") (n:="__iter__") (by rw[md,me];kernel_rfl) (by decide+kernel) (by decide+kernel) (by decide+kernel) (by first|exact .inl (by decide+kernel)|exact .inr (by decide+kernel)) (by rw[iF];kernel_rfl)
theorem Ea:n6 table "set_iterator.__iter__"=some Builtin.«dict_keyiterator.__iter__»:=ue (id':="dict_keyiterator.__iter__") (by kernel_rfl) rfl (by decide+kernel) (by kernel_rfl)
theorem GQ(a:aa):iL "set_iterator.__iter__" ⟨[a],[]⟩:=by unfold iL;kernel_rfl
def fQ(w:ay)(t:bE)(D:ab)(n ep i:Nat):Obj:={ cls:=.type "set_iterator",data:=.fields #[cn (iJ w t i),cn i,.ref D,cn n,cn ep] }
section
variable{prog:aE}{w:ay}{A:a8}{E:aa->ae->Prop}{s:ae}{D I:ab}{L:List rD}{ep:Nat}{t:bE}
structure Goes (w:ay)(L:List rD)(t:bE):Prop where
 g:Lies t L
 hl:L.length<=t.mask
 pl:t.plain=true
 ld:t.led=!Gz w
theorem acQ{Q:aa->ae->Prop}(ho:s.heap.get? D=some (gC L ep t))(g:Goes w L t)(h:Q (.ref s.heap.objs.size) { s with heap:=s.heap.push (fQ w t D L.length ep 0) }):ai (ar prog w) A (i_ (.ref D)) Q E s:=by
 have hT:s.TypeIs (.ref D) "set":=⟨_,ho,rfl⟩
 refine qk hT F.slot_set_iter (g9 F.slot_set_iter hT Lz ?_ (F.args_set_iter_1 _));unfold Builtin.«frozenset.__iter__» cq.Frozenset.slot0 cq.Frozenset.sizeOf cq.Frozenset.addrOf;simp only[slotArgs,ui,eC,bq,if_false,fI,bne_self_eq_false];refine af (af (az (az ?_)));refine af (af (uj ho rfl (g.g.fits g.hl) (az ?_)));have hdr:ai (ar prog w) A.in1 (setDrawn D) (fun b s'=>b=false/\s'=s) E s:=by unfold setDrawn setsByText;refine af (j6 ho rfl (g.g.fits g.hl) ?_);refine af (af (nV (az (az ⟨?_,rfl⟩))));show(_ && (!t.plain && _))=false;rw[g.pl];simp
 refine af (dQ hdr (fun b s' hb=>?_) fun _ _ z=>z);obtain⟨rfl,rfl⟩:=hb;simp only[bq,if_false];refine af (az ?_);refine af (wpAny_setEpoch_of ho rfl (g.g.fits g.hl) ?_);have e0:iJ w t 0=0:=by unfold iJ;simp
 have eo:(fQ w t D L.length ep 0)={ cls:=.type "set_iterator",data:=.fields ([cn 0,cn 0,aa.ref D,cn ((L.map (·.2)).toArray.size:Nat),cn (ep:Nat)]:List aa).toArray }:=by unfold fQ;rw[e0];simp
 rw[eo]at h;exact af (fN (az ⟨_,rfl,"set_iterator",_,⟨_,cy _ rfl,rfl⟩,gk.lookup,h⟩))
theorem aaD{i:Nat}{Q:Option aa->ae->Prop}{e:Int×aa}(hI:s.heap.get? I=some (fQ w t D L.length ep i))(ho:s.heap.get? D=some (gC L ep t))(g:Goes w L t)(hi:i < L.length)(he:(oJ w D ep L)[i]?=some e)
  (h:∀h',et I s.heap h'->h'.get? I=some (fQ w t D L.length ep (i + 1))->Q (some e.2) { s with heap:=h' }):ai (ar prog w) A (dS (.ref I)) Q E s:=by
 have hT:s.TypeIs (.ref I) "set_iterator":=⟨_,hI,rfl⟩
 unfold dS;refine af (j8 (mf (name:=mh "__next__") hT gk (g9 gk hT sy ?_ (uO _))));unfold Builtin.«set_iterator.__next__»;simp only[slotArgs,ui,eC,bq,if_false,fI,bne_self_eq_false];refine af (az ?_);refine af (qo hI rfl ?_);simp only[cn];refine af (uj ho rfl (g.g.fits g.hl) ?_);have hz:((((L.map (·.2)).toArray.size:Nat):Int) != ((L.length:Nat):Int))=false:=by simp
 simp only[hz,bq,if_false,kA];refine af (YX ho g.g g.hl g.pl g.ld (fv hi) ?_);rw[he];simp only[nK];have hd0:(fQ w t D L.length ep i).data=.fields #[cn (iJ w t i),cn i,.ref D,cn L.length,cn ep]:=rfl;refine af (n8 hI hd0 (by simp) ?_);have hd1:=qq hd0 (·.setIfInBounds 0 (cn (iJ w t (i + 1))));have hI1:=fg (n9 (·.setIfInBounds 0 (cn (iJ w t (i + 1))))) hI (uk hd1);refine af (n8 hI1 hd1 (by simp) ?_);have hd2:=qq hd1 (·.setIfInBounds 1 (cn (i + 1:Nat)));have hI2:=fg (n9 (·.setIfInBounds 1 (cn (i + 1:Nat)))) hI1 (uk hd2);refine az ⟨_,rfl,az (h _ ((l9 ..).trans (l9 ..)) ?_)⟩;refine hI2.trans ?_;unfold fQ n9;simp[cn]
theorem aaE{Q:Option aa->ae->Prop}(hh:A.handled=none)(hI:s.heap.get? I=some (fQ w t D L.length ep L.length))(ho:s.heap.get? D=some (gC L ep t))(g:Goes w L t)
  (h:∀h',qr I s.heap h'->Q none { s with heap:=h' }):ai (ar prog w) A (dS (.ref I)) Q E s:=by
 have hT:s.TypeIs (.ref I) "set_iterator":=⟨_,hI,rfl⟩
 unfold dS;refine af (j8 (mf (name:=mh "__next__") hT gk (g9 gk hT sy ?_ (uO _))));unfold Builtin.«set_iterator.__next__»;simp only[slotArgs,ui,eC,bq,if_false,fI,bne_self_eq_false];refine af (az ?_);refine af (qo hI rfl ?_);simp only[cn];refine af (uj ho rfl (g.g.fits g.hl) ?_);have hz:((((L.map (·.2)).toArray.size:Nat):Int) != ((L.length:Nat):Int))=false:=by simp
 simp only[hz,bq,if_false,kA];refine af (YX ho g.g g.hl g.pl g.ld (bj _) ?_);have he:(oJ w D ep L)[L.length]?=none:=by rw[qs];rw[uo];exact bj _
 rw[he];simp only[Option.map_none];have hd0:(fQ w t D L.length ep L.length).data=.fields #[cn (iJ w t L.length),cn L.length,.ref D,cn L.length,cn ep]:=rfl;refine af (n8 hI hd0 (by simp) ?_);refine af ?_;simp only[newExc,newTuple];refine af (fN ?_ (by size_fits));refine af (m:=ml _ _) (iE (a:=aa.none) (by first|rfl|(simp only[ml];rfl)) ?_);refine fN ?_ (by size_fits);simp only[raiseNew];refine af (uv ?_);rw[show A.in1.handled=none from hh];refine af (az (uA ?_));refine af (mo (T:="StopIteration") (b:=true) ⟨_,cy _ rfl,rfl⟩ uB ?_);exact az (h _ (((l9 ..).extBut.push _).push _))
theorem aaF(hh:A.handled=none)(hne:D≠I)(g:Goes w L t) :
  Walks prog w A I [I,D] [I] L.length (fun i v=>∃e,(oJ w D ep L)[i]?=some e/\v=e.2) (fun i h=>h.get? I=some (fQ w t D L.length ep i)/\h.get? D=some (gC L ep t)) where
 sub:=fun b hb=>by simp at hb;simp[hb]
 frame:=fun _ _ _ st hk=>⟨hk I (by simp) _ st.1,hk D (by simp) _ st.2⟩
 item:=fun i s Q E hi st hQ=>by
  have hlt:i < (oJ w D ep L).size:=by rw[uo];exact hi
  refine aaD st.1 st.2 g hi (kF hlt) fun h' hs hI'=>?_;exact hQ _ h' s.toks ⟨_,kF hlt,rfl⟩ ⟨hI',(hs.2 D hne).trans st.2⟩ fun b o hb e=>(hs.2 b (fun z=>hb (by simp[z]))).trans e
 done:=fun s Q E st hQ=>aaE hh st.1 st.2 g fun h' he=>hQ h' s.toks fun b o hb e=>he b o (fun z=>hb (by simp[z])) e
 self:=fun i s Q E st hQ=>by
  have hT:s.TypeIs (.ref I) "set_iterator":=⟨_,st.1,rfl⟩
  refine qk hT uP (g9 uP hT Ea ?_ (GQ _));show ai _ _ (ret (.ref I)) _ _ s;exact az ⟨_,rfl,"set_iterator",_,hT,gk.lookup,hQ⟩
end
section
variable{prog:aE}{w:ay}{A:a8}{E:aa->ae->Prop}{s:ae}{D I:ab}{L:List rD}{ep:Nat}{t:bE}
abbrev cG:Obj:={ cls:=.type "list",data:=.seq ([]:List aa).toArray }
theorem acR{Q:Bool->ae->Prop}(ho:s.heap.get? D=some (gC L ep t))(h:Q false s):ai (ar prog w) A (qv (.ref D)) Q E s:=by
 have hT:s.TypeIs (.ref D) "set":=⟨_,ho,rfl⟩
 unfold qv;refine af (l8 hT F.slot_set_len.lookup ?_);have e1:splitId "set.__len__"=some ("set","__len__"):=by kernel_rfl
 simp only[e1];refine af (mo hT sub_set_self ?_);simp only[eC,bq,if_false];have pick:∀{c:Bool}{x y:Sem Bool},c=true->ai (ar prog w) A x Q E s->ai (ar prog w) A (if c=true then x else y) Q E s:=fun {c x y} hc hy=>by rw[hc];exact hy
 refine pick (by decide+kernel) ?_;refine af (l5 hT ?_);exact az h
theorem Rk{Q:List aa->ae->Prop}(hh:A.handled=none)(ho:s.heap.get? D=some (gC L ep t))(g:Goes w L t)(hn:L.length<=1000)
  (hQ:∀h' tk,(∀b o,s.heap.get? b=some o->h'.get? b=some o)->s.heap.objs.size<=h'.objs.size->Q ((oJ w D ep L).toList.map (·.2)) { s with heap:=h',toks:=tk }):ai (ar prog w) A (collect (.ref D)) Q E s:=by
 have su:D < s.heap.objs.size:=bg ho;unfold collect;refine af (qh (g8 F.entry_proto_collect ?_));rw[iA F.plain_proto_collect _];show ai _ A.in1 (newList [] >>= fun l=>again (.builtin "list.__iadd__" ⟨[l,.ref D],[]⟩)) _ _ s;refine af (fN ?_);refine az ⟨gu qA _,g8 F.entry_list_iadd ?_⟩;rw[iA qA _];have p1:∀b o,s.heap.get? b=some o->(s.heap.push cG).get? b=some o:=fun b o e=>b0 _ e;have hD1:(s.heap.push cG).get? D=some (gC L ep t):=p1 _ _ ho;have hS1:(s.heap.push cG).get? s.heap.objs.size=some cG:=cy _ rfl;show ai _ A.in1 (j9 (.ref s.heap.objs.size) (.ref D) (.ref s.heap.objs.size)) _ _ _;unfold j9;have hT:tJ { s with heap:=s.heap.push cG } (.ref D) "set":=⟨_,hD1,rfl⟩
 refine af (l5 hT ?_);have k1:mv (.ref s.heap.objs.size) (.ref D)=false:=by simp[mv];exact kX su
 have k2:(aa.type "set" == aa.type "list")=false:=by decide
 have k3:(aa.type "set" == aa.type "tuple")=false:=by decide
 simp only[k1,k2,k3,qa,bq,if_false];refine af (acQ hD1 g ?_);have p2:∀b o,(s.heap.push cG).get? b=some o->((s.heap.push cG).push (fQ w t D L.length ep 0)).get? b=some o:=fun b o e=>b0 _ e;have hD2:=p2 _ _ hD1;have hS2:=p2 _ _ hS1;have hI2:((s.heap.push cG).push (fQ w t D L.length ep 0)).get? (s.heap.push cG).objs.size=some (fQ w t D L.length ep 0):=cy _ rfl;have LK:(s.heap.push cG).objs.size=s.heap.objs.size + 1:=nB ..;refine af (ez (acR hD2 ?_));have pick:∀{c:Bool}{x y:Sem n_}{R:n_->ae->Prop}{F':aa->ae->Prop}{s':ae},c=true->ai (ar prog w) A.in1 x R F' s'->ai (ar prog w) A.in1 (if c=true then x else y) R F' s':=fun {c x y R F' s'} hc hy=>by rw[hc];exact hy
 refine pick (by decide+kernel) ?_;refine af (g_ ?_);refine af ?_;show ai _ A.in1 (j_ s.heap.objs.size (·.push .none) >>= fun _=>j_ s.heap.objs.size (·.pop)) _ _ _;refine af (hG hS2 rfl ?_);have hS3:=fg (cE (·.push aa.none)) hS2 rfl;refine hG hS3 rfl ?_;have GR:=fg (cE (·.pop)) hS3 rfl;generalize hH:(((s.heap.push cG).push (fQ w t D L.length ep 0)).update s.heap.objs.size (cE (·.push aa.none))).update s.heap.objs.size (cE (·.pop))=H at GR;have oth:∀b o,b≠s.heap.objs.size->((s.heap.push cG).push (fQ w t D L.length ep 0)).get? b=some o->H.get? b=some o:=fun b o hb e=>by rw[<- hH];exact(fm _ _ (dm hb)).trans ((fm _ _ (dm hb)).trans e)
 have W:=(aaF (prog:=prog) (w:=w) (A:=A.in1) (D:=D) (I:=(s.heap.push cG).objs.size) (ep:=ep) (by simpa using hh) (by rw[LK];exact bS (jS su)) g).toS;have hSf:s.heap.objs.size∉[(s.heap.push cG).objs.size,D]:=by simp only[bz,gx,or_false,not_or];exact⟨by rw[LK];exact bS (Nat.lt_succ_self _),kX su⟩
 refine az ⟨gu qB _,uC W (by rw[dA];lia) s.heap.objs.size hSf _ L.length 0 _ _ _ rfl (d7 _) ⟨oth _ _ (by rw[LK];exact t_ _) hI2,oth _ _ (bS su) hD2⟩ GR (uS _) fun s' acc c hm hS' hacc=>?_⟩;show ai _ A (load s.heap.objs.size >>= _) _ _ s';refine af (wpAny_load hS' ?_);have hacc':acc.toList=(oJ w D ep L).toList.map (·.2):=by
  apply qE;intro i;rw[cf,fF,fF];cases e:acc[i]? with
  |some v =>
   obtain⟨x,hx,rfl⟩:=hacc.2 i v e;rw[hx];rfl
  |none =>
   have:acc.size<=i:=by simpa using e
   rw[hacc.1]at this;rw[qs (by rw[uo];exact this)];rfl
 obtain⟨h',g',d',tk',os'⟩:=s';have eg:g'=s.gens:=hm.gens;have ed:d'=s.drawn:=hm.drawn;have eo:os'=s.os:=hm.os;subst eg ed eo;show ai _ _ (pure acc.toList) _ _ _;rw[hacc'];refine az (hQ h' tk' (fun b o e=>hm.heap b o ?_ (oth b o (bS (bg e)) (p2 _ _ (p1 _ _ e)))) (fv (bg hS')));simp only[bz,gx,or_false,not_or];exact⟨bS (bg e),by rw[LK];exact bS (jS (bg e))⟩
end
section
variable{prog:aE}{w:ay}{A:a8}{E:aa->ae->Prop}{s:ae}
end
section
variable{prog:aE}{w:ay}{U:ab->List Int->Prop}{A:a8}{E:aa->ae->Prop}{s:ae}
end
section
variable{prog:aE}{w:ay}{U:ab->List Int->Prop}{A:a8}{E:aa->ae->Prop}{s:ae}
end
section
variable{prog:aE}{w:ay}{U:ab->List Int->Prop}{A:a8}{E:aa->ae->Prop}{s:ae}
end
section
variable{prog:aE}{w:ay}{U:ab->List Int->Prop}{A:a8}{E:aa->ae->Prop}{s:ae}
end
section
variable{prog:aE}{w:ay}{U:ab->List Int->Prop}{A:a8}{E:aa->ae->Prop}{s:ae}
end
end Tb
namespace So
open PySem PySem.W PyProof.Rows
def Sp(lt:Nat->Nat->Bool)(n:Nat){α:Type}:KasT α->(α->Prop)->Prop
 | .ret a,Q=>Q a
 | .ask i j k,Q=>i < n/\j < n/\Sp lt n (k (lt i j)) Q
section
variable{lt:Nat->Nat->Bool}{n:Nat}{α β:Type}
structure Ar (n:Nat)(p:Array Nat):Prop where
 sz:p.size=n
 lt:∀i,p.getD i 0 < n
 pm:p.toList.Perm (bu n)
def Up(lt:Nat->Nat->Bool)(p:Array Nat)(m:Nat):Prop:=∀i j,i < j->j < m->lt (p.getD j 0) (p.getD i 0)=false
def Dn(lt:Nat->Nat->Bool)(p:Array Nat)(m:Nat):Prop:=∀i j,i < j->j < m->lt (p.getD i 0) (p.getD j 0)=false
structure Ord (lt:Nat->Nat->Bool):Prop where
 tr:∀a b c,lt b a=false->lt c b=false->lt c a=false
 as:∀a b,lt a b=true->lt b a=false
theorem irr(O:Ord lt)(a:Nat):lt a a=false:=by
 cases h:lt a a with
 |false=>rfl
 |true=>have:=O.as a a h;rw[h]at this;cases this
end
end So
namespace So
open PySem PySem.W PyProof.Rows PySem.Calls
def yc:List Int->List Int->Bool
 | [],[]=>false
 | [],_::_=>true
 |_::_,[]=>false
 |a::as,b::bs=>if a=b then yc as bs else decide (a < b)
theorem Wn:∀a b:List Int,yc a b=true->yc b a=false
 | [],[],h=>by cases h
 | [],_::_,h=>rfl
 |_::_,[],h=>by cases h
 |a::as,b::bs,h=>by
  unfold yc at h ⊢;by_cases c:a=b
  ·subst c;simp only[if_true]at h ⊢;exact Wn as bs h
  ·rw[if_neg c]at h;rw[if_neg (dm c)];have:=of_decide_eq_true h;exact decide_eq_false (by lia)
theorem Wo:∀a b c:List Int,yc b a=false->yc c b=false->yc c a=false
 | [],[],[],_,_=>rfl
 | [],[],_::_,_,_=>rfl
 | [],_::_,[],_,h=>by cases h
 | [],_::_,_::_,_,_=>rfl
 |_::_,[],_,h,_=>by cases h
 |a::as,b::bs,[],_,h=>by cases h
 |a::as,b::bs,c::cs,h1,h2=>by
  unfold yc at h1 h2 ⊢;by_cases e1:b=a
  ·subst e1;simp only[if_true]at h1;by_cases e2:c=b
   ·subst e2;simp only[if_true]at h2 ⊢;exact Wo as bs cs h1 h2
   ·rw[if_neg e2]at h2 ⊢;exact h2
  ·rw[if_neg e1]at h1;have g1:=of_decide_eq_false h1;by_cases e2:c=b
   ·subst e2;rw[if_neg e1];exact h1
   ·rw[if_neg e2]at h2;have g2:=of_decide_eq_false h2;rw[if_neg (by lia)];exact decide_eq_false (by lia)
theorem acS:∀a b:List Int,yc a b=false->yc b a=false->a=b
 | [],[],_,_=>rfl
 | [],_::_,h,_=>by cases h
 |_::_,[],_,h=>by cases h
 |a::as,b::bs,h1,h2=>by
  unfold yc at h1 h2;by_cases c:a=b
  ·subst c;simp only[if_true]at h1 h2;rw[acS as bs h1 h2]
  ·rw[if_neg c]at h1;rw[if_neg (dm c)]at h2;have:=of_decide_eq_false h1;have:=of_decide_eq_false h2;lia
theorem ajv(bf:List (List Int)):Ord fun i j=>yc (bf.getD i []) (bf.getD j []):=⟨fun a b c h1 h2=>Wo _ _ _ h1 h2,fun a b h=>Wn _ _ h⟩
section
variable{prog:aE}{w:ay}{A:a8}{E:aa->ae->Prop}{s:ae}
def alY(prog:aE)(w:ay)(A:a8)(κ:eL)(vs:List aa)(lt:Nat->Nat->Bool)(s:ae):Prop :=
 ∀i j (C:Bool->ae->Prop) (E:aa->ae->Prop),i < vs.length->j < vs.length->C (lt i j) s->ai (ar prog w) A (keyLt' κ (vs.getD i aa.none) (vs.getD j aa.none)) C E s
def Wq(lt:Nat->Nat->Bool)(vs:List aa)(st:a_):Prop:=∃p:Array Nat,Ar vs.length p/\Up lt p vs.length/\(ax st).map (·.2)=ka (p.toList.map fun i=>vs.getD i aa.none)/\eM st=none
theorem acT{b:Bool}{Q:Bool->ae->Prop}:∀{ks js:List Int}{xs ys:List aa}(i:Nat),ItemsAre (cb prog w) ks xs->ItemsAre (cb prog w) js ys->Q (yc ks js) s ->
  KatLex prog w A b (decide (xs.length < ys.length)) Q (xs.zip ys) i s:=by
 have gen:∀(d:Bool) {ks js:List Int}{xs ys:List aa}(i:Nat),ItemsAre (cb prog w) ks xs->ItemsAre (cb prog w) js ys->d=decide (xs.length < ys.length)->Q (yc ks js) s->KatLex prog w A b d Q (xs.zip ys) i s:=by
  intro d ks
  induction ks with
  |nil =>
   intro js xs ys i hx hy hd hq;cases hx;cases hy with
   |nil=>subst hd;exact kat_nil hq
   |cons h1 h2=>subst hd;exact kat_nil hq
  |cons k ks ih =>
   intro js xs ys i hx hy hd hq;cases hx with
   |cons h1 h2 =>
    cases hy with
    |nil=>subst hd;exact kat_nil hq
    | @cons j v js vs h3 h4 =>
     obtain⟨t,rfl⟩:=kP h1;obtain⟨u,rfl⟩:=kP h3;refine kat_cons (wpAny_eqBool_int ?_);by_cases e:k=j
     ·subst e;rw[show(k == k)=true from by simp];refine kat_yes (ih (i + 1) h2 h4 (by rw[hd];simp) ?_);unfold yc at hq;rw[if_pos rfl]at hq;exact hq
     ·rw[show(k == j)=false from by simp[e]];unfold yc at hq;rw[if_neg e]at hq;refine kat_no ?_;cases (b && i == 0) with
      |true=>exact oneLt_int hq
      |false=>exact kat_one _ _ (wpAny_lt_int hq)
 intro ks js xs ys i hx hy hq;exact gen _ i hx hy rfl hq
theorem afT{a b:ab}{ks js:List Int}{f:Bool}{Q:Bool->ae->Prop}(ha:cK (cb prog w) s.heap ks a)(hb:cK (cb prog w) s.heap js b)(hq:Q (yc ks js) s) :
  ai (ar prog w) A (keyLt' (tuples' f) (.ref a) (.ref b)) Q E s:=by
 obtain⟨o,xs,n,h1,h2,h3,h4⟩:=ha;obtain⟨o',ys,n',h1',h2',h3',h4'⟩:=hb;refine kat_lt h1 h3 h1' h3' ?_;have:=acT (prog:=prog) (w:=w) (A:=A) (b:=f) 0 h4 h4' hq;simpa using this
def KeysAre(prog:aE)(w:ay)(h:Heap)(vs:List aa)(bf:List (List Int)):Prop :=
 bf.length=vs.length/\∀(i:Nat) v,vs[i]?=some v->∃b,v=.ref b/\cK (cb prog w) h (bf.getD i []) b
theorem KeysAre.moved{h h':Heap}{vs:List aa}{bf:List (List Int)}(k:KeysAre prog w h vs bf) (hm:∀b o,h.get? b=some o->o.cls=.type "tuple"->h'.get? b=some o):KeysAre prog w h' vs bf :=
 ⟨k.1,fun i v hv=>let ⟨b,e,o,its,m,q1,q2,q3,q4⟩:=k.2 i v hv;⟨b,e,o,its,m,hm _ _ q1 q2,q2,q3,q4⟩⟩
theorem KeysAre.asks{f:Bool}{vs:List aa}{bf:List (List Int)}(k:KeysAre prog w s.heap vs bf):alY prog w A (tuples' f) vs (fun i j=>yc (bf.getD i []) (bf.getD j [])) s:=by intro i j C E hi hj hC;obtain⟨b,e,hb⟩:=k.2 i vs[i] (d4 hi);obtain⟨b',e',hb'⟩:=k.2 j vs[j] (d4 hj);rw[show vs.getD i aa.none=.ref b by simp[hi,e],show vs.getD j aa.none=.ref b' by simp[hj,e']];exact afT hb hb' hC
theorem KeysAre.tups{h:Heap}:∀{vs:List aa}{bf:List (List Int)},KeysAre prog w h vs bf->(∀ks∈bf,ks≠[])->∃fs:List aa,KatTups h vs fs/\fs.length=vs.length/\∀v∈fs,∃i t,v=.int i t
 | [],bf,k,hn=>⟨[],.nil,rfl,fun v hv=>by cases hv⟩
 |v::vs,[],k,hn=>by cases k.1
 |v::vs,ks::bf,k,hn=>by
  obtain⟨fs,t,l,e⟩:=KeysAre.tups (vs:=vs) (bf:=bf) ⟨by have:=k.1;simpa using this,fun i u hu=>by have:=k.2 (i + 1) u (by simpa using hu);simpa using this⟩ fun x hx=>hn x (.tail _ hx);obtain⟨b,rfl,o,its,m,q1,q2,q3,q4⟩:=k.2 0 v (by simp);have hne:=hn ks (.head _);simp at q4;generalize hits:its.toList=L at q4;cases q4 with
  |nil=>exact absurd rfl hne
  | @cons i v' ks' vs' h1 h2 =>
   obtain⟨tk,rfl⟩:=kP h1;have h0:its[0]?=some (aa.int i tk):=by rw[<- fF,hits];rfl
   refine⟨.int i tk::fs,.cons q1 q2 q3 h0 t,by simp[l],fun u hu=>?_⟩;rcases bz.mp hu with rfl|hu
   ·exact⟨_,_,rfl⟩
   ·exact e u hu
def leK(a b:List Int):Prop:=yc b a=false
def Wr(x:List Int):List (List Int)->List (List Int)
 | []=>[x]
 |y::ys=>if yc y x=true then y::Wr x ys else x::y::ys
def cu(l:List (List Int)):List (List Int):=l.foldr Wr []
theorem yE(x:List Int):∀l,(Wr x l).Perm (x::l)
 | []=>.refl _
 |y::ys=>by
  unfold Wr;split
  ·exact((yE x ys).cons y).trans (g7.swap x y ys)
  ·exact .refl _
theorem eE:∀l,(cu l).Perm l
 | []=>.refl _
 |x::l=>(yE x (cu l)).trans ((eE l).cons x)
theorem YZ(x:List Int):∀l,l.Pairwise leK->(Wr x l).Pairwise leK
 | [],_=>by simp[Wr]
 |y::ys,h=>by
  obtain⟨h1,h2⟩:=fq.mp h;unfold Wr;split
  ·rename_i c;refine fq.mpr ⟨fun z hz=>?_,YZ x ys h2⟩;rcases bz.mp ((yE x ys).mem_iff.mp hz) with rfl|hz
   ·exact Wn _ _ c
   ·exact h1 z hz
  ·rename_i c;have c':yc y x=false:=by simpa using c
   refine fq.mpr ⟨fun z hz=>?_,h⟩;rcases bz.mp hz with rfl|hz
   ·exact c'
   ·exact Wo _ _ _ c' (h1 z hz)
theorem pH:∀l,(cu l).Pairwise leK
 | []=>.nil
 |x::l=>YZ x _ (pH l)
theorem yF:∀{l l':List (List Int)},l.Perm l'->l.Pairwise leK->l'.Pairwise leK->l=l'
 | [],l',p,_,_=>(List.nil_perm.mp p).symm
 |x::l,[],p,_,_=>by cases List.perm_nil.mp p
 |x::l,y::l',p,h,h'=>by
  obtain⟨h1,h2⟩:=fq.mp h;obtain⟨h1',h2'⟩:=fq.mp h';have e:x=y:=by
   have m1:=bz.mp (p.mem_iff.mp (df (a:=x) (l:=l)));have m2:=bz.mp (p.mem_iff.mpr (df (a:=y) (l:=l')));rcases m1 with m1|m1
   ·exact m1
   ·rcases m2 with m2|m2
    ·exact m2.symm
    ·exact acS _ _ (h1' x m1) (h1 y m2)
  subst e;rw[yF (p.cons_inv) h2 h2']
theorem Eb{l l':List (List Int)}(p:l.Perm l')(h:l.Pairwise leK):l=cu l':=yF (p.trans (eE l').symm) h (pH l')
def Rm(bf:List (List Int))(p:Array Nat):Prop:=p.toList.Perm (bu bf.length)/\(p.toList.map fun i=>bf.getD i [])=cu bf
theorem acU{bf:List (List Int)}{p:Array Nat}(a:Ar bf.length p)(u:Up (fun i j=>yc (bf.getD i []) (bf.getD j [])) p bf.length):Rm bf p:=by
 refine⟨a.pm,Eb ?_ ?_⟩
 ·have:=a.pm.map fun i=>bf.getD i [];refine this.trans (oa ?_);apply kD
  ·simp
  ·intro i h1 h2;simp at h1;simp[h1]
 ·rw[j3];intro i j hi hj hij;simp only[b8,i0]at hi hj;have:=u i j hij (by rw[<- a.sz];exact hj);simp only[List.getElem_map,Array.getElem_toList];unfold leK;rw[j4,j4,kF hi,kF hj]at this;exact this
theorem Ro{bf:List (List Int)}(h:bf.length < 2):Rm bf (ka (bu bf.length)):=by
 refine⟨.refl _,Eb ?_ ?_⟩
 ·refine oa ?_;apply kD
  ·simp
  ·intro i h1 h2;simp at h1;simp[h1]
 ·rw[j3];intro i j hi hj hij;simp at hi hj;lia
end
end So
namespace Sb
open PySem PySem.W PyProof.Rows
section
variable{prog:aE}{w:ay}{A:a8}{E:aa->ae->Prop}{s:ae}{a₀ x0:Array aw}{κ:eL}{rk:aw->Int}{lo:Nat}{p0:Array (Nat×Nat×Nat)}
def Ax(prog:aE)(w:ay)(A:a8)(s:ae)(κ:eL)(rk:aw->Int)(a₀:Array aw):Prop :=
 ∀x y (C:Bool->ae->Prop) (E:aa->ae->Prop),x∈a₀.toList->y∈a₀.toList->C (decide (rk x < rk y)) s->ai (ar prog w) A (keyLt' κ x.1 y.1) C E s
def R(rk:aw->Int)(xs:Array aw)(i:Nat):Int:=match xs[i]? with|some p=>rk p|none=>0
theorem kW{xs ys:Array aw}{i j:Nat}(h:xs[i]?=ys[j]?):R rk xs i=R rk ys j:=by unfold R;rw[h]
theorem jg{xs:Array aw}{i:Nat}{x:aw}(h:xs[i]?=some x):R rk xs i=rk x:=by unfold R;rw[h]
def Up(rk:aw->Int)(xs:Array aw)(lo n:Nat):Prop:=∀i j,i<=j->j < n->R rk xs (lo + i)<=R rk xs (lo + j)
def Dn(rk:aw->Int)(xs:Array aw)(lo n:Nat):Prop:=∀i j,i<=j->j < n->R rk xs (lo + j)<=R rk xs (lo + i)
structure SB (κ:eL)(a₀ x0:Array aw)(p0:Array (Nat×Nat×Nat))(lo:Nat)(st:a_):Prop where
 perm:(ax st).Perm a₀
 kind:kindOf st=κ
 failed:eM st=none
 pend:bP st=p0
 keep:∀k,k < lo->(ax st)[k]?=x0[k]?
theorem SB.size{st:a_}(h:SB κ a₀ x0 p0 lo st):(ax st).size=a₀.size:=h.perm.size_eq
theorem SB.setArr{st:a_}(h:SB κ a₀ x0 p0 lo st){xs:Array aw}(hp:xs.Perm (ax st))(hk:∀k,k < lo->xs[k]?=(ax st)[k]?):SB κ a₀ x0 p0 lo (setArr st xs) :=
 ⟨hp.trans h.perm,h.kind,h.failed,h.pend,fun k hl=>(hk k hl).trans (h.keep k hl)⟩
theorem acV{xs:Array aw}(hp:xs.Perm a₀){i:Nat}{x:aw}(h:xs[i]?=some x):x∈a₀.toList:=by obtain⟨hi,rfl⟩:=gT.mp h;exact(qS.mp hp).mem_iff.mp (by simp)
theorem bY{st:a_}{xs:Array aw}{i:Nat}{x:aw}{Q:aw->a_->Prop}(h:xs[i]?=some x)(hq:Q x st):wpS (ar prog w) A E s (c4 xs i) Q st:=by rw[elem'_eq,h];exact ba hq
theorem Ec{st:a_}{x y:aw}{Q:Option Bool->a_->Prop}(ha:Ax prog w A s κ rk a₀)(hk:kindOf st=κ)(hx:x∈a₀.toList)(hy:y∈a₀.toList)(h:Q (some (decide (rk x < rk y))) st) :
  wpS (ar prog w) A E s (lt' x y) Q st:=by
 rw[lt'_eq];refine aI (gy ?_);rw[hk];refine aI (kG (j8 (ha x y _ _ hx hy ⟨rfl,?_⟩)));exact ba h
theorem wH{st:a_}{i j:Nat}{Q:Option Bool->a_->Prop}(ha:Ax prog w A s κ rk a₀)(hB:SB κ a₀ x0 p0 lo st)(hi:i < a₀.size)(hj:j < a₀.size)
  (h:Q (some (decide (R rk (ax st) i < R rk (ax st) j))) st):wpS (ar prog w) A E s (ltAt' i j) Q st:=by
 have e1:(ax st)[i]?=some ((ax st)[i]'(by rw[hB.size];exact hi)):=getElem?_pos _ i _;have e2:(ax st)[j]?=some ((ax st)[j]'(by rw[hB.size];exact hj)):=getElem?_pos _ j _;rw[jg e1,jg e2]at h;rw[ltAt'_eq];refine aI (gy ?_);exact aI (bY e1 (aI (bY e2 (Ec ha hB.kind (acV hB.perm e1) (acV hB.perm e2) h))))
theorem Cv{st:a_}{i j:Nat}{Q:Unit->a_->Prop}(h:Q () (setArr st (hV (ax st) i j ((j - i) / 2)))) :
  wpS (ar prog w) A E s (og i j) Q st:=by
 rw[reverseSlice'_eq];exact iN h
theorem Ed{xs:Array aw}{i j:Nat}(hj:j<=xs.size)(k:Nat) :
  R rk (hV xs i j ((j - i) / 2)) k=if i<=k/\k < j then R rk xs (i + j - 1 - k) else R rk xs k:=by
 have e:=getElem?_mirror_all (i:=i) hj k;by_cases h1:i<=k/\k < j
 ·rw[if_pos h1]at e ⊢;exact kW e
 ·rw[if_neg h1]at e ⊢;exact kW e
theorem gU{xs:Array aw}{i j:Nat}(hj:j<=xs.size)(heq:∀k,i<=k->k < j->R rk xs k=R rk xs (j - 1))(k:Nat) :
  R rk (hV xs i j ((j - i) / 2)) k=R rk xs k:=by
 rw[Ed hj];split
 ·rw[heq _ (by lia) (by lia),heq k (by lia) (by lia)]
 ·rfl
theorem SB.rev{st:a_}(h:SB κ a₀ x0 p0 lo st){i j:Nat}(hi:lo<=i)(hj:j<=a₀.size):SB κ a₀ x0 p0 lo (PyProof.Rows.setArr st (hV (ax st) i j ((j - i) / 2))) :=
 h.setArr (mirror_perm _ _ _ _) fun k hk=>by rw[getElem?_mirror_all (by rw[h.size];exact hj),if_neg (by lia)]
def acW(lo a nrem:Nat):StateT a_ Sem AscSt :=
 forIn [a:nrem] ((none,a):AscSt) fun _ __s=>do
  let __x <- ltAt' (lo + __s.snd) (lo + __s.snd - 1)
  match __x with
  |some smaller=>if smaller=true then pure (ForInStep.done (none,__s.snd)) else pure (ForInStep.yield (none,__s.snd + 1))
  |_=>pure (ForInStep.done (some none,__s.snd))
def Rp(lo n nrem:Nat):StateT a_ Sem (Option Nat):=do
 og lo (lo + n)
 let __s <- acW lo n nrem
 match __s.fst with
 |some r=>pure r
 |none=>pure (some __s.snd)
def Za(lo n nrem:Nat):StateT a_ Sem DescSt :=
 forIn [n:nrem] ((none,n,0):DescSt) fun _ __s=>do
  let __x <- ltAt' (lo + __s.snd.fst) (lo + __s.snd.fst - 1)
  match __x with
  |some smaller =>
   if smaller=true then
    if __s.snd.snd > 0 then do
     og (lo + __s.snd.fst - (__s.snd.snd + 1)) (lo + __s.snd.fst)
     pure (ForInStep.yield (none,__s.snd.fst + 1,0))
    else pure (ForInStep.yield (none,__s.snd.fst + 1,0))
   else do
    let __x <- ltAt' (lo + __s.snd.fst - 1) (lo + __s.snd.fst)
    match __x with
    |some larger =>
     if larger=true then pure (ForInStep.done (none,__s.snd.fst,__s.snd.snd))
     else pure (ForInStep.yield (none,__s.snd.fst + 1,__s.snd.snd + 1))
    |_=>pure (ForInStep.done (some none,__s.snd.fst,__s.snd.snd))
  |_=>pure (ForInStep.done (some none,__s.snd.fst,__s.snd.snd))
def Rq(lo n nrem:Nat):StateT a_ Sem (Option Nat):=do
 liftM (rule "list.sort.descending-run")
 let __s <- Za lo (n + 1) nrem
 match __s.fst with
 |some r=>pure r
 |none =>
  if __s.snd.snd > 0 then do
   og (lo + __s.snd.fst - (__s.snd.snd + 1)) (lo + __s.snd.fst)
   Rp lo __s.snd.fst nrem
  else Rp lo __s.snd.fst nrem
theorem acX(lo nrem:Nat):countRun' lo nrem=(do
  let __s <- acW lo 1 nrem
  match __s.fst with
  |some r=>pure r
  |none =>
   if (__s.snd == nrem)=true then pure (some __s.snd)
   else if __s.snd > 1 then do
    let __x <- ltAt' lo (lo + __s.snd - 1)
    match __x with
    |some rose=>if rose=true then pure (some __s.snd) else do
      og lo (lo + __s.snd)
      Rq lo __s.snd nrem
    |_=>pure none
   else Rq lo __s.snd nrem):=by
 rw[countRun'_eq];unfold Rq Rp Za acW;dsimp only;congr 1;funext __s;obtain⟨r,n⟩:=__s;cases r with
 |some r=>rfl
 |none =>
  dsimp only;split
  ·rfl
  ·split
   ·congr 1;funext x;cases x with
    |none=>rfl
    |some rose =>
     dsimp only;split
     ·rfl
     ·congr 1;funext _r;congr 1;funext _u;congr 1;congr 1;funext s2;obtain⟨r2,n2,q2⟩:=s2;cases r2 with
      |some r2=>rfl
      |none =>
       dsimp only;split
       ·congr 1;funext _v;congr 1;funext _w;congr 1;funext s3;obtain⟨r3,n3⟩:=s3;cases r3 <;> rfl
       ·congr 1;funext _w;congr 1;funext s3;obtain⟨r3,n3⟩:=s3;cases r3 <;> rfl
   ·congr 1;funext _u;congr 1;congr 1;funext s2;obtain⟨r2,n2,q2⟩:=s2;cases r2 with
    |some r2=>rfl
    |none =>
     dsimp only;split
     ·congr 1;funext _v;congr 1;funext _w;congr 1;funext s3;obtain⟨r3,n3⟩:=s3;cases r3 <;> rfl
     ·congr 1;funext _w;congr 1;funext s3;obtain⟨r3,n3⟩:=s3;cases r3 <;> rfl
end
section
variable{prog:aE}{w:ay}{A:a8}{E:aa->ae->Prop}{s:ae}{a₀ x0:Array aw}{κ:eL}{rk:aw->Int}{lo:Nat}{p0:Array (Nat×Nat×Nat)}
theorem Zb{st:a_}{a nrem:Nat}{Q:AscSt->a_->Prop}(h0:Ax prog w A s κ rk a₀)(hn:lo + nrem<=a₀.size)(ha:1<=a)(han:a<=nrem)(hB:SB κ a₀ x0 p0 lo st)
  (hs:Up rk (ax st) lo a)
  (h:∀n,a<=n->n<=nrem->Up rk (ax st) lo n->(n=nrem∨R rk (ax st) (lo + n) < R rk (ax st) (lo + (n - 1)))->Q (none,n) st) :
  wpS (ar prog w) A E s (acW lo a nrem) Q st:=by
 unfold acW;refine eD (I:=fun x c st'=>st'=st/\c=(none,x)/\Up rk (ax st) lo x) ?step ?gD ⟨rfl,rfl,hs⟩
 case gD =>
  rintro c st' ⟨rfl,rfl,hs'⟩;rw[show max a nrem=nrem by lia]at hs' ⊢;exact h nrem han (bj _) hs' (.inl rfl)
 case step =>
  rintro x c st' hax hxn ⟨rfl,rfl,hs'⟩;dsimp only;rw[show lo + x - 1=lo + (x - 1) by lia];refine aI (wH h0 hB (by lia) (by lia) ?_);by_cases hless:R rk (ax st') (lo + x) < R rk (ax st') (lo + (x - 1))
  ·simp only[hless,decide_true,if_true];exact ba (h x hax (by lia) hs' (.inr hless))
  ·simp only[hless,decide_false,bq,if_false];refine ba ⟨rfl,rfl,fun i j hij hj=>?_⟩;by_cases hjx:j < x
   ·exact hs' i j hij hjx
   ·have hj':j=x:=by lia
    subst hj';by_cases hi':i=j
    ·subst hi';exact gz _
    ·exact d_ (hs' i (j - 1) (by lia) (by lia)) (oj.mp hless)
theorem Jz{st:a_}{n nrem:Nat}{Q:Option Nat->a_->Prop}(h0:Ax prog w A s κ rk a₀)(hn:lo + nrem<=a₀.size)(h1:1<=n)(hnn:n<=nrem)(hB:SB κ a₀ x0 p0 lo st)
  (hs:Dn rk (ax st) lo n) (h:∀m st',SB κ a₀ x0 p0 lo st'->1<=m->m<=nrem->Up rk (ax st') lo m->Q (some m) st') :
  wpS (ar prog w) A E s (Rp lo n nrem) Q st:=by
 unfold Rp;have hsz:lo + n<=(ax st).size:=by rw[hB.size];lia
 refine aI (Cv ?_);have hB':SB κ a₀ x0 p0 lo (setArr st (hV (ax st) lo (lo + n) ((lo + n - lo) / 2))):=hB.rev (bj _) (by lia);refine aI (Zb h0 hn h1 hnn hB' ?_ fun m hm1 hm2 hsm _=>ba (h m _ hB' (by lia) hm2 hsm));intro i j hij hj;show R rk (hV (ax st) lo (lo + n) ((lo + n - lo) / 2)) (lo + i)<=R rk (hV (ax st) lo (lo + n) ((lo + n - lo) / 2)) (lo + j);rw[Ed hsz,Ed hsz,if_pos (by lia),if_pos (by lia)];have:=hs (n - 1 - j) (n - 1 - i) (by lia) (by lia);rw[show lo + (lo + n) - 1 - (lo + i)=lo + (n - 1 - i) by lia,show lo + (lo + n) - 1 - (lo + j)=lo + (n - 1 - j) by lia];exact this
theorem acY{st:a_}{n nrem:Nat}{Q:DescSt->a_->Prop}(h0:Ax prog w A s κ rk a₀)(hn:lo + nrem<=a₀.size)(h1:1<=n)(hnn:n<=nrem)(hB:SB κ a₀ x0 p0 lo st)
  (hs:Dn rk (ax st) lo n)
  (h:∀m neq st',SB κ a₀ x0 p0 lo st'->n<=m->m<=nrem->Dn rk (ax st') lo m->neq + 1<=m->(∀i,lo + m - (neq + 1)<=i->i < lo + m->R rk (ax st') i=R rk (ax st') (lo + m - 1))->Q (none,m,neq) st') :
  wpS (ar prog w) A E s (Za lo n nrem) Q st:=by
 unfold Za;refine eD (I:=fun x c st'=>∃neq,c=(none,x,neq)/\SB κ a₀ x0 p0 lo st'/\Dn rk (ax st') lo x/\neq + 1<=x /\
   (∀i,lo + x - (neq + 1)<=i->i < lo + x->R rk (ax st') i=R rk (ax st') (lo + x - 1))) ?step ?gD ⟨0,rfl,hB,hs,by lia,fun i h1 h2=>by congr 1;lia⟩
 case gD =>
  rintro c st' ⟨neq,rfl,hB',hs',hq,he⟩;rw[show max n nrem=nrem by lia]at hs' hq he ⊢;exact h nrem neq st' hB' hnn (bj _) hs' hq he
 case step =>
  rintro x c st' hax hxn ⟨neq,rfl,hB',hs',hq,he⟩;dsimp only;have hsz:lo + x<=(ax st').size:=by rw[hB'.size];lia
  have e1:lo + x - 1=lo + (x - 1):=by lia
  refine aI (wH h0 hB' (by lia) (by lia) ?_);by_cases hless:R rk (ax st') (lo + x) < R rk (ax st') (lo + x - 1)
  ·simp only[hless,decide_true,if_true];rw[e1]at hless;have step1:∀xs:Array aw,(∀k,R rk xs k=R rk (ax st') k)->Dn rk xs lo (x + 1):=by
    intro xs hk i j hij hj;rw[hk,hk];by_cases hjx:j < x
    ·exact hs' i j hij hjx
    ·have hj':j=x:=by lia
     subst hj';by_cases hi':i=j
     ·subst hi';exact gz _
     ·exact d_ (fR hless) (hs' i (j - 1) (by lia) (by lia))
   by_cases hneq:neq > 0
   ·rw[if_pos hneq];refine aI (Cv (ba ⟨0,rfl,hB'.rev (by lia) (by lia),step1 _ (gU hsz he),by lia,fun i h1 h2=>by congr 1;lia⟩))
   ·rw[if_neg hneq];exact ba ⟨0,rfl,hB',step1 _ (fun _=>rfl),by lia,fun i h1 h2=>by congr 1;lia⟩
  ·simp only[hless,decide_false,bq,if_false];refine aI (wH h0 hB' (by lia) (by lia) ?_);by_cases hlarger:R rk (ax st') (lo + x - 1) < R rk (ax st') (lo + x)
   ·simp only[hlarger,decide_true,if_true];exact ba (h x neq st' hB' hax (by lia) hs' hq he)
   ·simp only[hlarger,decide_false,bq,if_false];have heqx:R rk (ax st') (lo + x)=R rk (ax st') (lo + x - 1):=by lia
    refine ba ⟨neq + 1,rfl,hB',fun i j hij hj=>?_,by lia,fun i h1 h2=>?_⟩
    ·by_cases hjx:j < x
     ·exact hs' i j hij hjx
     ·have hj':j=x:=by lia
      subst hj';by_cases hi':i=j
      ·subst hi';exact gz _
      ·rw[heqx,e1];exact hs' i (j - 1) (by lia) (by lia)
    ·rw[show lo + (x + 1) - 1=lo + x by lia];by_cases hix:i=lo + x
     ·subst hix;rfl
     ·rw[heqx];exact he i (by lia) (by lia)
theorem JB{st:a_}{n nrem:Nat}{Q:Option Nat->a_->Prop}(h0:Ax prog w A s κ rk a₀)(hn:lo + nrem<=a₀.size)(hnn:n + 1<=nrem)(hB:SB κ a₀ x0 p0 lo st)
  (hs:Dn rk (ax st) lo (n + 1)) (h:∀m st',SB κ a₀ x0 p0 lo st'->1<=m->m<=nrem->Up rk (ax st') lo m->Q (some m) st') :
  wpS (ar prog w) A E s (Rq lo n nrem) Q st:=by
 unfold Rq;refine aI (kG (g_ ⟨rfl,?_⟩));refine aI (acY h0 hn (by lia) hnn hB hs fun m neq st' hB' hm1 hm2 hs' hq he=>?_);dsimp only;have hsz:lo + m<=(ax st').size:=by rw[hB'.size];lia
 by_cases hneq:neq > 0
 ·rw[if_pos hneq];refine aI (Cv (Jz h0 hn (by lia) hm2 (hB'.rev (by lia) (by lia)) ?_ h));intro i j hij hj;show R rk (hV (ax st') _ _ _) _<=R rk (hV (ax st') _ _ _) _;rw[gU hsz he,gU hsz he];exact hs' i j hij hj
 ·rw[if_neg hneq];exact Jz h0 hn (by lia) hm2 hB' hs' h
theorem aaH{st:a_}{nrem:Nat}{Q:Option Nat->a_->Prop}(h0:Ax prog w A s κ rk a₀)(hn:lo + nrem<=a₀.size)(h1:1<=nrem)(hB:SB κ a₀ x0 p0 lo st)
  (h:∀m st',SB κ a₀ x0 p0 lo st'->1<=m->m<=nrem->Up rk (ax st') lo m->Q (some m) st') :
  wpS (ar prog w) A E s (countRun' lo nrem) Q st:=by
 rw[acX];refine aI (Zb h0 hn (bj 1) h1 hB (fun i j hij hj=>by have e:i=j:=by { lia };subst e;exact gz _) fun n hn1 hn2 hsn hor=>?_);dsimp only;by_cases hnn:n=nrem
 ·rw[if_pos (by simpa using hnn)];exact ba (h n st hB hn1 hn2 hsn)
 ·rw[if_neg (by simpa using hnn)];have hlt:R rk (ax st) (lo + n) < R rk (ax st) (lo + (n - 1)):=hor.resolve_left hnn;by_cases hgt:n > 1
  ·rw[if_pos hgt,show lo + n - 1=lo + (n - 1) by lia];refine aI (wH h0 hB (by lia) (by lia) ?_);by_cases hrose:R rk (ax st) lo < R rk (ax st) (lo + (n - 1))
   ·simp only[hrose,decide_true,if_true];exact ba (h n st hB hn1 hn2 hsn)
   ·simp only[hrose,decide_false,bq,if_false];have hsz:lo + n<=(ax st).size:=by rw[hB.size];lia
    have hall':∀k,k < n->R rk (ax st) (lo + k)=R rk (ax st) (lo + (n - 1)):=by intro k hk;have a1:=hsn 0 k (by lia) hk;have a2:=hsn k (n - 1) (by lia) (by lia);rw[lS]at a1;lia
    have hall:∀k,lo<=k->k < lo + n->R rk (ax st) k=R rk (ax st) (lo + n - 1):=fun k k1 k2=>by have:=hall' (k - lo) (by lia);rw[show lo + (k - lo)=k by lia]at this;rw[this];congr 1;lia
    refine aI (Cv (JB h0 hn (by lia) (hB.rev (bj _) (by lia)) ?_ h));intro i j hij hj;show R rk (hV (ax st) _ _ _) _<=R rk (hV (ax st) _ _ _) _;rw[gU hsz hall,gU hsz hall];by_cases hjn:j < n
    ·rw[hall' i (by lia),hall' j hjn];exact gz _
    ·obtain rfl:j=n:=by lia
     by_cases hi':i=j
     ·subst hi';exact gz _
     ·rw[hall' i (by lia)];exact fR hlt
  ·rw[if_neg hgt];obtain rfl:n=1:=by lia
   refine JB h0 hn (by lia) hB ?_ h;intro i j hij hj;by_cases hi':i=j
   ·subst hi';exact gz _
   ·obtain rfl:i=0:=by lia
    obtain rfl:j=1:=by lia
    exact fR hlt
theorem Rr{xs:Array aw}{src d:Nat}(hs:src < xs.size)(hd:d<=src)(k:Nat) :
  R rk (bubble xs src d) k=if k=src - d then R rk xs src else if src - d < k/\k<=src then R rk xs (k - 1) else R rk xs k:=by
 have e:=getElem?_bubble hs d hd k;by_cases h1:k=src - d
 ·rw[if_pos h1]at e ⊢;exact kW e
 ·rw[if_neg h1]at e ⊢;by_cases h2:src - d < k/\k<=src
  ·rw[if_pos h2]at e ⊢;exact kW e
  ·rw[if_neg h2]at e ⊢;exact kW e
theorem afU{st:a_}{n ok:Nat}{Q:Bool->a_->Prop}(h0:Ax prog w A s κ rk a₀)(hn:lo + n<=a₀.size)(hok:ok<=n)(hB:SB κ a₀ x0 p0 lo st)(hs:Up rk (ax st) lo ok)
  (h:∀st',SB κ a₀ x0 p0 lo st'->Up rk (ax st') lo n->Q true st'):wpS (ar prog w) A E s (binarySort' lo n ok) Q st:=by
 rw[binarySort'_eq];refine aI (d8 (eD (I:=fun k c st'=>c=(none,())/\SB κ a₀ x0 p0 lo st'/\Up rk (ax st') lo (min k n))
  (Q:=fun c st'=>c=(none,())/\SB κ a₀ x0 p0 lo st'/\Up rk (ax st') lo n) ?step ?gD ?init) ?post)
 case post =>
  rintro c st' ⟨rfl,hB',hs'⟩;exact ba (h st' hB' hs')
 case init =>
  refine⟨rfl,hB,fun i j hij hj=>?_⟩;by_cases h1:ok=0
  ·obtain rfl:i=j:=by lia
   exact gz _
  ·exact hs i j hij (by lia)
 case gD =>
  rintro c st' ⟨hc,hB',hs'⟩;refine⟨hc,hB',?_⟩;rwa [show min (max (max ok 1) n) n=n by lia]at hs'
 case step =>
  rintro k c st' hak hkn ⟨rfl,hB',hs'⟩;rw[show min k n=k by lia]at hs';have hk:lo + k < a₀.size:=by lia
  refine aI (d8 (eD (I:=fun x c st''=>st''=st'/\∃l r,c=(none,l,r)/\l<=r/\r<=k/\r - l<=k - x /\
    (∀i,i < l->R rk (ax st') (lo + i)<=R rk (ax st') (lo + k))/\(∀i,r<=i->i < k->R rk (ax st') (lo + k) < R rk (ax st') (lo + i)))
   (Q:=fun c st''=>st''=st'/\∃l r,c=(none,l,r)/\l<=k /\
    (∀i,i < l->R rk (ax st') (lo + i)<=R rk (ax st') (lo + k))/\(∀i,l<=i->i < k->R rk (ax st') (lo + k) < R rk (ax st') (lo + i))) ?istep ?ifin ?iinit) ?ipost)
  case iinit=>exact⟨rfl,0,k,rfl,by lia,by lia,by lia,fun i hi=>by lia,fun i h1 h2=>by lia⟩
  case ifin =>
   rintro c st'' ⟨rfl,l,r,rfl,hlr,hrk,hm,hlo,hhi⟩;obtain rfl:l=r:=by lia
   exact⟨rfl,l,l,rfl,hrk,hlo,hhi⟩
  case istep =>
   rintro x c st'' _ hxk ⟨rfl,l,r,rfl,hlr,hrk,hm,hlo,hhi⟩;dsimp only;by_cases hge:l ≥ r
   ·rw[if_pos hge];obtain rfl:l=r:=by lia
    exact ba ⟨rfl,l,l,rfl,hrk,hlo,hhi⟩
   ·rw[if_neg hge];refine aI (wH h0 hB' hk (by lia) ?_);by_cases hless:R rk (ax st'') (lo + k) < R rk (ax st'') (lo + (l + r) / 2)
    ·simp only[hless,decide_true,if_true];refine ba ⟨rfl,l,(l + r) / 2,rfl,by lia,by lia,by lia,hlo,fun i h1 h2=>?_⟩;exact Int.lt_of_lt_of_le hless (hs' _ _ h1 h2)
    ·simp only[hless,decide_false,bq,if_false];refine ba ⟨rfl,(l + r) / 2 + 1,r,rfl,by lia,by lia,by lia,fun i h1=>?_,hhi⟩;exact d_ (hs' i ((l + r) / 2) (by lia) (by lia)) (oj.mp hless)
  case ipost =>
   rintro c st'' ⟨rfl,l,r,rfl,hlk,hlo,hhi⟩;show wpS _ _ _ _ (do moveDown' (lo + k) (lo + l);pure (ForInStep.yield (none,()))) _ _;rw[moveDown'_eq];have hks:lo + k < (ax st'').size:=by rw[hB'.size];exact hk
   refine aI (iN (ba ⟨rfl,hB'.setArr (bubble_perm _ _ _) (fun q hq=>?_),?_⟩))
   ·rw[getElem?_bubble hks _ (by lia),if_neg (by lia),if_neg (by lia)]
   rw[show min (k + 1) n=k + 1 by lia];intro i j hij hj;show R rk (bubble (ax st'') (lo + k) (lo + k - (lo + l))) (lo + i)<=R rk (bubble (ax st'') (lo + k) (lo + k - (lo + l))) (lo + j);rw[Rr hks (by lia),Rr hks (by lia),show lo + k - (lo + k - (lo + l))=lo + l by lia];have pre:∀q,lo + l < lo + q->lo + q - 1=lo + (q - 1):=fun q hq=>by lia
   repeat' split
   all_goals first
    | (exfalso;lia)
    |exact gz _
    |exact hlo _ (by lia)
    | (rw[pre _ (by lia)];exact fR (hhi _ (by lia) (by lia)))
    |exact hs' _ _ (by lia) (by lia)
    | (rw[pre _ (by lia)];exact hs' _ _ (by lia) (by lia))
    | (rw[pre _ (by lia),pre _ (by lia)];exact hs' _ _ (by lia) (by lia))
end
def iU:Bool->Keyed->Array Keyed->Nat->Nat->Nat->StateT SortSt Sem (Option Nat):=sortPriv% PySem.Builtin.gallop
def bey(left:Bool)(key:aw)(arr:Array aw)(base i:Nat):StateT a_ Sem (Option Bool):=do
 let x <- c4 arr (base + i)
 if left then lt' x key else return (<- lt' key x).map (!·)
theorem Ws(left:Bool)(key:aw)(arr:Array aw)(base n hint:Nat):iU left key arr base n hint=(do
 let mut lastofs:=0
 let mut ofs:=1
 let mut lo:=0
 let mut hi:=0
 let some right <- bey left key arr base hint|return none
 if right then
  let maxofs:=n - hint
  for _ in [0:n] do
   if ofs ≥ maxofs then break
   let some more <- bey left key arr base (hint + ofs)|return none
   if !more then break
   lastofs:=ofs
   ofs:=2 * ofs + 1
  lo:=hint + lastofs + 1
  hi:=hint + min ofs maxofs
 else
  let maxofs:=hint + 1
  for _ in [0:n] do
   if ofs ≥ maxofs then break
   let some found <- bey left key arr base (hint - ofs)|return none
   if found then break
   lastofs:=ofs
   ofs:=2 * ofs + 1
  lo:=hint + 1 - min ofs maxofs
  hi:=hint - lastofs
 for _ in [0:n] do
  if lo ≥ hi then break
  let m:=lo + (hi - lo) / 2
  let some more <- bey left key arr base m|return none
  if more then lo:=m + 1 else hi:=m
 return some hi):=rfl
section
variable{prog:aE}{w:ay}{A:a8}{E:aa->ae->Prop}{s:ae}{a₀ x0:Array aw}{κ:eL}{rk:aw->Int}{lo:Nat}{p0:Array (Nat×Nat×Nat)}
def bp(rk:aw->Int)(left:Bool)(key:aw)(arr:Array aw)(base i:Nat):Bool:=if left then decide (R rk arr (base + i) < rk key) else decide (R rk arr (base + i)<=rk key)
theorem Cw{st:a_}{left:Bool}{key:aw}{arr:Array aw}{base i:Nat}{Q:Option Bool->a_->Prop}(h0:Ax prog w A s κ rk a₀)(hk:kindOf st=κ)(hm:key∈a₀.toList)(ha:∀x∈arr.toList,x∈a₀.toList)(hi:base + i < arr.size)
  (h:Q (some (bp rk left key arr base i)) st):wpS (ar prog w) A E s (bey left key arr base i) Q st:=by
 have e:arr[base + i]?=some arr[base + i]:=getElem?_pos arr _ hi;have hx:arr[base + i]∈a₀.toList:=ha _ (by simp);unfold bp at h;rw[jg e]at h;unfold bey;refine aI (bY e ?_);cases left with
 |true=>simp only[if_true]at h ⊢;exact Ec h0 hk hx hm h
 |false =>
  simp only[bq,if_false]at h ⊢;refine aI (Ec h0 hk hm hx (ba ?_));have:(some (decide (rk key < rk arr[base + i]))).map (!·)=some (decide (rk arr[base + i]<=rk key)):=by simp only[nK,<- decide_not,oj]
  rw[this];exact h
theorem afV{left:Bool}{key:aw}{arr:Array aw}{base n:Nat}(hu:Up rk arr base n){i j:Nat}(hij:i<=j)(hj:j < n)(h:bp rk left key arr base j=true):bp rk left key arr base i=true:=by have:=hu i j hij hj;unfold bp at h ⊢;cases left <;> simp at h ⊢ <;> lia
theorem jW{st:a_}{left:Bool}{key:aw}{arr:Array aw}{base n hint:Nat}{Q:Option Nat->a_->Prop}(h0:Ax prog w A s κ rk a₀)(hk:kindOf st=κ)(hm:key∈a₀.toList)(ha:∀x∈arr.toList,x∈a₀.toList)
  (hb:base + n<=arr.size) (hh:hint < n) (hu:Up rk arr base n)
  (h:∀k,k<=n->(∀i,i < k->bp rk left key arr base i=true)->(∀i,k<=i->i < n->bp rk left key arr base i=false)->Q (some k) st) :
  wpS (ar prog w) A E s (iU left key arr base n hint) Q st:=by
 have mono:=fun {i j:Nat}(hij:i<=j) (hj:j < n)=>afV (left:=left) (key:=key) hu hij hj;have acZ:∀{i j:Nat},i<=j->j < n->bp rk left key arr base i=false->bp rk left key arr base j=false:=fun {i j} hij hj hf=>by
  cases c:bp rk left key arr base j with
  |false=>rfl
  |true=>rw[mono hij hj c]at hf;cases hf
 have last:∀(l0 h0':Nat),l0<=h0'->h0'<=n->(∀i,i < l0->bp rk left key arr base i=true)->(∀i,h0'<=i->i < n->bp rk left key arr base i=false) ->
   ∀(f:Nat->Option (Option Nat)×Nat×Nat->StateT a_ Sem (ForInStep (Option (Option Nat)×Nat×Nat))) (k:Option (Option Nat)×Nat×Nat->StateT a_ Sem (Option Nat)),
   (∀x l hi,f x (none,l,hi)=if l ≥ hi then pure (ForInStep.done (none,l,hi)) else do
    let __x <- bey left key arr base (l + (hi - l) / 2)
    match __x with
    |some more=>if more=true then pure (ForInStep.yield (none,l + (hi - l) / 2 + 1,hi)) else pure (ForInStep.yield (none,l,l + (hi - l) / 2))
    |_=>pure (ForInStep.done (some none,l,hi)))->(∀l hi,k (none,l,hi)=pure (some hi)) ->
   wpS (ar prog w) A E s (do let r <- forIn [0:n] (none,l0,h0') f;k r) Q st:=by
  intro l0 h0' hlh hhn hlo hhi f k hf hkk;refine aI (d8 (eD (I:=fun x c st'=>st'=st/\∃l r,c=(none,l,r)/\l<=r/\r<=n/\r - l<=n - x/\(∀i,i < l->bp rk left key arr base i=true)/\(∀i,r<=i->i < n->bp rk left key arr base i=false))
   (Q:=fun c st'=>st'=st/\∃r,c=(none,r,r)/\r<=n/\(∀i,i < r->bp rk left key arr base i=true)/\(∀i,r<=i->i < n->bp rk left key arr base i=false)) ?step ?gD ⟨rfl,l0,h0',rfl,hlh,hhn,by lia,hlo,hhi⟩) ?post)
  case post =>
   rintro c st' ⟨rfl,r,rfl,h1,h2,h3⟩;rw[hkk];exact ba (h r h1 h2 h3)
  case gD =>
   rintro c st' ⟨rfl,l,r,rfl,h1,h2,h3,h4,h5⟩;obtain rfl:l=r:=by lia
   exact⟨rfl,l,rfl,h2,h4,h5⟩
  case step =>
   rintro x c st' _ hx ⟨rfl,l,r,rfl,h1,h2,h3,h4,h5⟩;rw[hf];by_cases hge:l ≥ r
   ·rw[if_pos hge];obtain rfl:l=r:=by lia
    exact ba ⟨rfl,l,rfl,h2,h4,h5⟩
   ·rw[if_neg hge];refine aI (Cw h0 hk hm ha (by lia) ?_);cases c:bp rk left key arr base (l + (r - l) / 2) with
    |true =>
     simp only[if_true];exact ba ⟨rfl,_,r,rfl,by lia,h2,by lia,fun i hi=>mono (show i<=l + (r - l) / 2 by lia) (by lia) c,h5⟩
    |false =>
     simp only[bq,if_false];exact ba ⟨rfl,l,_,rfl,by lia,by lia,by lia,h4,fun i h6 h7=>acZ h6 h7 c⟩
 rw[Ws];dsimp only;refine aI (Cw h0 hk hm ha (by lia) ?_);cases c:bp rk left key arr base hint with
 |true =>
  simp only[if_true];refine aI (d8 (eD (I:=fun x c st'=>st'=st/\∃lf oK,c=(none,lf,oK)/\x + 1<=oK/\lf < oK/\hint + lf < n/\bp rk left key arr base (hint + lf)=true)
   (Q:=fun c st'=>st'=st/\∃lf oK,c=(none,lf,oK)/\lf < oK/\hint + lf < n/\bp rk left key arr base (hint + lf)=true/\(n - hint<=oK∨(hint + oK < n/\bp rk left key arr base (hint + oK)=false))) ?step ?gD ⟨rfl,0,1,rfl,by lia,by lia,by lia,c⟩) ?post)
  case post =>
   rintro c st' ⟨rfl,lf,oK,rfl,h1,h2,h3,h4⟩;refine last (hint + lf + 1) (hint + min oK (n - hint)) (by lia) (by lia) (fun i hi=>mono (show i<=hint + lf by lia) h2 h3) (fun i h5 h6=>?_) _ _ (fun x l hi=>rfl) (fun l hi=>rfl);rcases h4 with h4|⟨h7,h8⟩
   ·lia
   ·exact acZ (show hint + oK<=i by lia) h6 h8
  case gD =>
   rintro c st' ⟨rfl,lf,oK,rfl,h1,h2,h3,h4⟩;exact⟨rfl,lf,oK,rfl,h2,h3,h4,.inl (by lia)⟩
  case step =>
   rintro x c st' _ hx ⟨rfl,lf,oK,rfl,h1,h2,h3,h4⟩;dsimp only;by_cases hge:oK ≥ n - hint
   ·rw[if_pos hge];exact ba ⟨rfl,lf,oK,rfl,h2,h3,h4,.inl hge⟩
   ·rw[if_neg hge];refine aI (Cw h0 hk hm ha (by lia) ?_);cases d:bp rk left key arr base (hint + oK) with
    |true =>
     simp only[eC,bq,if_false];exact ba ⟨rfl,oK,2 * oK + 1,rfl,by lia,by lia,by lia,d⟩
    |false =>
     simp only[nL,if_true];exact ba ⟨rfl,lf,oK,rfl,h2,h3,h4,.inr ⟨by lia,d⟩⟩
 |false =>
  simp only[bq,if_false];refine aI (d8 (eD (I:=fun x c st'=>st'=st/\∃lf oK,c=(none,lf,oK)/\x + 1<=oK/\lf < oK/\lf<=hint/\bp rk left key arr base (hint - lf)=false)
   (Q:=fun c st'=>st'=st/\∃lf oK,c=(none,lf,oK)/\lf < oK/\lf<=hint/\bp rk left key arr base (hint - lf)=false/\(hint + 1<=oK∨(oK<=hint/\bp rk left key arr base (hint - oK)=true))) ?step ?gD ⟨rfl,0,1,rfl,by lia,by lia,by lia,c⟩) ?post)
  case post =>
   rintro c st' ⟨rfl,lf,oK,rfl,h1,h2,h3,h4⟩;refine last (hint + 1 - min oK (hint + 1)) (hint - lf) (by lia) (by lia) (fun i hi=>?_) (fun i h5 h6=>acZ h5 h6 h3) _ _ (fun x l hi=>rfl) (fun l hi=>rfl);rcases h4 with h4|⟨h7,h8⟩
   ·lia
   ·exact mono (show i<=hint - oK by lia) (by lia) h8
  case gD =>
   rintro c st' ⟨rfl,lf,oK,rfl,h1,h2,h3,h4⟩;exact⟨rfl,lf,oK,rfl,h2,h3,h4,.inl (by lia)⟩
  case step =>
   rintro x c st' _ hx ⟨rfl,lf,oK,rfl,h1,h2,h3,h4⟩;dsimp only;by_cases hge:oK ≥ hint + 1
   ·rw[if_pos hge];exact ba ⟨rfl,lf,oK,rfl,h2,h3,h4,.inl hge⟩
   ·rw[if_neg hge];refine aI (Cw h0 hk hm ha (by lia) ?_);cases d:bp rk left key arr base (hint - oK) with
    |false =>
     simp only[bq,if_false];exact ba ⟨rfl,oK,2 * oK + 1,rfl,by lia,by lia,by lia,d⟩
    |true =>
     simp only[if_true];exact ba ⟨rfl,lf,oK,rfl,h2,h3,h4,.inr ⟨by lia,d⟩⟩
end
abbrev gM(rk:aw->Int)(l:List aw):Prop:=l.Pairwise fun x y=>rk x<=rk y
structure Mg (rk:aw->Int)(a b out:Array aw)(ia ib:Nat):Prop where
 ha:ia<=a.size
 hb:ib<=b.size
 sz:out.size=ia + ib
 pm:(out.toList++(a.toList.drop ia++b.toList.drop ib)).Perm (a.toList++b.toList)
 up:gM rk out.toList
 bd:∀x∈out.toList,∀y∈a.toList.drop ia++b.toList.drop ib,rk x<=rk y
def GX(rk:aw->Int)(a b m:Array aw):Prop:=m.toList.Perm (a.toList++b.toList)/\gM rk m.toList
section
variable{rk:aw->Int}{a b out:Array aw}{ia ib k:Nat}{x y:aw}
theorem qw(a:Array aw)(i j:Nat):(a.extract i j).toList=(a.toList.drop i).take (j - i):=by rw[Array.toList_extract,List.extract_eq_take_drop]
theorem nC(l:List aw)(i k:Nat):l.drop i=(l.drop i).take k++l.drop (i + k):=by rw[<- List.drop_drop,l4]
theorem Mg.sG(h:Mg rk a b out ia ib)(sa:gM rk a.toList)(hk:ia + k<=a.size)(hc:∀x∈(a.toList.drop ia).take k,∀y∈b.toList.drop ib,rk x<=rk y):Mg rk a b (out++a.extract ia (ia + k)) (ia + k) ib:=by
 have e:(a.extract ia (ia + k)).toList=(a.toList.drop ia).take k:=by rw[qw];congr 1;lia
 have sp:=nC a.toList ia k;have sd:gM rk (a.toList.drop ia):=i8 (tf _ _) sa;rw[sp]at sd;obtain⟨s1,s2,s3⟩:=gp.mp sd;refine⟨hk,h.hb,?_,?_,?_,?_⟩
 ·rw[kH,qV,h.sz];lia
 ·rw[ir,e];refine g7.trans (oa ?_) h.pm
  conv=>rhs;rw[sp]
  simp only[gN]
 ·rw[ir,e];refine gp.mpr ⟨h.up,s1,fun x hx y hy=>h.bd x hx y ?_⟩;rw[sp];simp[hy]
 ·intro x hx y hy;rw[ir,e]at hx;rcases dq.mp hx with hx|hx
  ·refine h.bd x hx y ?_;rw[sp];rcases dq.mp hy with hy|hy
   ·simp[hy]
   ·simp[hy]
  ·rcases dq.mp hy with hy|hy
   ·exact s3 x hx y hy
   ·exact hc x hx y hy
theorem Mg.swap(h:Mg rk a b out ia ib):Mg rk b a out ib ia:=by
 refine⟨h.hb,h.ha,by rw[h.sz,tj],?_,h.up,fun x hx y hy=>h.bd x hx y ?_⟩
 ·refine(n5 _ j5).trans (h.pm.trans j5)
 ·rcases dq.mp hy with hy|hy <;> simp[hy]
theorem Mg.LQ(h:Mg rk a b out ia ib)(sb:gM rk b.toList)(hk:ib + k<=b.size)(hc:∀y∈(b.toList.drop ib).take k,∀x∈a.toList.drop ia,rk y<=rk x):Mg rk a b (out++b.extract ib (ib + k)) ia (ib + k) :=
 (h.swap.sG sb hk hc).swap
theorem Zc{a:Array aw}{i:Nat}{x:aw}(h:a[i]?=some x):out.push x=out++a.extract i (i + 1):=by apply pS.mp;rw[pT,ir,qw];obtain⟨hi,rfl⟩:=gT.mp h;rw[ip (by simpa using hi),show i + 1 - i=1 by lia];simp
theorem alZ{a:Array aw}{i:Nat}{x z:aw}(h:a[i]?=some x)(hz:z∈(a.toList.drop i).take 1):z=x:=by obtain⟨hi,rfl⟩:=gT.mp h;rw[ip (by simpa using hi)]at hz;simpa using hz
theorem qx{a:Array aw}{i:Nat}{x z:aw}(sa:gM rk a.toList)(h:a[i]?=some x)(hz:z∈a.toList.drop i):rk x<=rk z:=by
 obtain⟨hi,rfl⟩:=gT.mp h;have sd:gM rk (a.toList.drop i):=i8 (tf _ _) sa;rw[ip (by simpa using hi)]at hz sd;rcases bz.mp hz with rfl|hz
 ·exact gz _
 ·have:=(fq.mp sd).1 z hz;simpa using this
theorem Mg.Ai(h:Mg rk a b out ia ib)(sa:gM rk a.toList)(hx:a[ia]?=some x)(hc:∀y∈b.toList.drop ib,rk x<=rk y):Mg rk a b (out.push x) (ia + 1) ib:=by
 rw[Zc hx];obtain⟨hi,_⟩:=gT.mp hx;exact h.sG sa (by lia) fun z hz y hy=>by rw[alZ hx hz];exact hc y hy
theorem Mg.JC(h:Mg rk a b out ia ib)(sb:gM rk b.toList)(hx:b[ib]?=some x)(hc:∀y∈a.toList.drop ia,rk x<=rk y):Mg rk a b (out.push x) ia (ib + 1):=(h.swap.Ai sb hx hc).swap
theorem Mg.done(h:Mg rk a b out ia ib)(sa:gM rk a.toList)(sb:gM rk b.toList)(hc:∀x∈a.toList.drop ia,∀y∈b.toList.drop ib,rk x<=rk y):GX rk a b (out++a.extract ia a.size++b.extract ib b.size):=by
 have ha:=h.ha;have hb:=h.hb;have h1:=h.sG (k:=a.size - ia) sa (by lia) fun x hx y hy=>hc x (pV hx) y hy;rw[show ia + (a.size - ia)=a.size by lia]at h1;have h2:=h1.LQ (k:=b.size - ib) sb (by lia) fun y hy x hx=>by rw[ll (by simp)]at hx;cases hx
 rw[show ib + (b.size - ib)=b.size by lia]at h2;refine⟨?_,h2.up⟩;have:=h2.pm;rw[ll (by simp),ll (by simp)]at this;simpa using this
theorem Mg.ada(h:Mg rk a b out ia ib)(sa:gM rk a.toList)(sb:gM rk b.toList)(hc:∀y∈b.toList.drop ib,∀x∈a.toList.drop ia,rk y<=rk x):GX rk a b (out++b.extract ib b.size++a.extract ia a.size):=by obtain⟨h1,h2⟩:=h.swap.done sb sa hc;exact⟨h1.trans j5,h2⟩
theorem ni{a:Array aw}{i k:Nat}{z:aw}(hz:z∈(a.toList.drop i).take k):∃j,j < k/\a[i + j]?=some z:=by
 obtain⟨j,hj⟩:=kK.mp hz;have hk:j < k:=by
  rcases mw j k with h|h
  ·exact h
  ·rw[q8 h]at hj;cases hj
 rw[k6 hk,om]at hj;exact⟨j,hk,by simpa using hj⟩
theorem CW{a:Array aw}{i:Nat}{z:aw}(hz:z∈a.toList.drop i):∃j,i + j < a.size/\a[i + j]?=some z:=by
 obtain⟨j,hj⟩:=kK.mp hz;rw[om]at hj;have h2:a[i + j]?=some z:=by simpa using hj
 exact⟨j,(gT.mp h2).1,h2⟩
theorem Rt(sa:gM rk a.toList)(i n:Nat)(h:i + n<=a.size):Up rk a i n:=by
 intro p q hpq hq;have hp':i + p < a.size:=by lia
 have hq':i + q < a.size:=by lia
 rw[jg (getElem?_pos a (i + p) hp'),jg (getElem?_pos a (i + q) hq')];by_cases e:p=q
 ·subst e;exact gz _
 ·have:=j3.mp sa (i + p) (i + q) (by simpa using hp') (by simpa using hq') (by lia);simpa using this
end
def Ef:Array Keyed->Array Keyed->StateT SortSt Sem (Array Keyed):=sortPriv% PySem.Builtin.mergeLo
def pI(g:Nat):StateT a_ Sem Unit:=modify fun s=>q9 (kindOf s) (ax s) (bP s) g (eM s)
theorem Ru(a b:Array aw):Ef a b=(do
 rule "list.sort.merge-lo"
 let total:=a.size + b.size
 let done (out:Array aw) (ia ib:Nat):=out++a.extract ia a.size++b.extract ib b.size
 let lastOfA (out:Array aw) (ia ib:Nat):=out++b.extract ib b.size++a.extract ia a.size
 let mut out:Array aw:=#[<- c4 b 0]
 let mut ia:=0
 let mut ib:=1
 if ib == b.size then return done out ia ib
 if ia + 1 == a.size then return lastOfA out ia ib
 let mut minGallop:=gallopOf (<- get)
 for _ in [0:total] do
  let mut acount:=0
  let mut bcount:=0
  for _ in [0:total] do
   let some bWins <- lt' (<- c4 b ib) (<- c4 a ia)|return done out ia ib
   if bWins then
    out:=out.push (<- c4 b ib);ib:=ib + 1;bcount:=bcount + 1;acount:=0
    if ib == b.size then return done out ia ib
    if bcount ≥ minGallop then break
   else
    out:=out.push (<- c4 a ia);ia:=ia + 1;acount:=acount + 1;bcount:=0
    if ia + 1 == a.size then return lastOfA out ia ib
    if acount ≥ minGallop then break
  rule "list.sort.gallop"
  minGallop:=minGallop + 1
  for _ in [0:total] do
   if minGallop > 1 then minGallop:=minGallop - 1
   pI minGallop
   let some k <- iU false (<- c4 b ib) a ia (a.size - ia) 0|return done out ia ib
   acount:=k
   if k > 0 then
    out:=out++a.extract ia (ia + k);ia:=ia + k
    if ia + 1 == a.size then return lastOfA out ia ib
    if ia == a.size then return done out ia ib
   out:=out.push (<- c4 b ib);ib:=ib + 1
   if ib == b.size then return done out ia ib
   let some k <- iU true (<- c4 a ia) b ib (b.size - ib) 0|return done out ia ib
   bcount:=k
   if k > 0 then
    out:=out++b.extract ib (ib + k);ib:=ib + k
    if ib == b.size then return done out ia ib
   out:=out.push (<- c4 a ia);ia:=ia + 1
   if ia + 1 == a.size then return lastOfA out ia ib
   if acount < 7 && bcount < 7 then break
  minGallop:=minGallop + 1
  pI minGallop
 unsupported "internal:list.sort.merge-bound"):=rfl
abbrev LoS:=Option (Array aw)×Array aw×Nat×Nat×Nat×Nat×Nat
def Zd(a b out:Array aw)(ia ib mg ac bc:Nat):StateT a_ Sem (ForInStep LoS):=do
 let x <- c4 a ia
 if (ia + 1 + 1 == a.size)=true then pure (.done (some (out.push x++b.extract ib b.size++a.extract (ia + 1) a.size),out.push x,ia + 1,ib,mg,ac,bc))
 else if (decide (ac < 7) && decide (bc < 7))=true then pure (.done (none,out.push x,ia + 1,ib,mg,ac,bc))
 else pure (.yield (none,out.push x,ia + 1,ib,mg,ac,bc))
def LR(a b out:Array aw)(ia ib mg ac bc:Nat):StateT a_ Sem (ForInStep LoS):=do
 let y <- c4 b ib
 if (ib + 1 == b.size)=true then pure (.done (some (out.push y++a.extract ia a.size++b.extract (ib + 1) b.size),out.push y,ia,ib + 1,mg,ac,bc))
 else do
  let x <- c4 a ia
  let __x <- iU true x b (ib + 1) (b.size - (ib + 1)) 0
  match __x with
  |some k =>
   if k > 0 then
    if (ib + 1 + k == b.size)=true then pure (.done (some (out.push y++b.extract (ib + 1) (ib + 1 + k)++a.extract ia a.size++b.extract (ib + 1 + k) b.size),out.push y++b.extract (ib + 1) (ib + 1 + k),ia,ib + 1 + k,mg,ac,k))
    else Zd a b (out.push y++b.extract (ib + 1) (ib + 1 + k)) ia (ib + 1 + k) mg ac k
   else Zd a b (out.push y) ia (ib + 1) mg ac k
  |_=>pure (.done (some (out.push y++a.extract ia a.size++b.extract (ib + 1) b.size),out.push y,ia,ib + 1,mg,ac,bc))
def cX(st st':a_):Prop:=ax st'=ax st/\kindOf st'=kindOf st/\bP st'=bP st/\eM st'=eM st
theorem cX.refl(st:a_):cX st st:=⟨rfl,rfl,rfl,rfl⟩
theorem cX.trans{x y z:a_}(h:cX x y)(g:cX y z):cX x z:=⟨g.1.trans h.1,g.2.1.trans h.2.1,g.2.2.1.trans h.2.2.1,g.2.2.2.trans h.2.2.2⟩
section
variable{prog:aE}{w:ay}{A:a8}{E:aa->ae->Prop}{s:ae}{a₀:Array aw}{κ:eL}{rk:aw->Int}{a b:Array aw}
theorem pJ{g:Nat}{Q:Unit->a_->Prop}{st:a_}(h:∀st',cX st st'->Q () st'):wpS (ar prog w) A E s (pI g) Q st :=
 iN (h _ ⟨rfl,rfl,rfl,rfl⟩)
structure Rv (prog:aE)(w:ay)(A:a8)(s:ae)(κ:eL)(rk:aw->Int)(a₀ a b:Array aw):Prop where
 h0:Ax prog w A s κ rk a₀
 sa:gM rk a.toList
 sb:gM rk b.toList
 ma:∀x∈a.toList,x∈a₀.toList
 mb:∀x∈b.toList,x∈a₀.toList
 la:0 < a.size
 lb:0 < b.size
 lt0:R rk b 0 < R rk a 0
 last:∀x∈b.toList,rk x<=R rk a (a.size - 1)
theorem oM{xs:Array aw}{i:Nat}{x:aw}(h:xs[i]?=some x):x∈xs.toList:=by obtain⟨hi,rfl⟩:=gT.mp h;simp
theorem eZ{xs:Array aw}{i:Nat}(h:i < xs.size):∃x,xs[i]?=some x:=⟨_,getElem?_pos xs i h⟩
theorem Rv.Ze(m:Rv prog w A s κ rk a₀ a b){out:Array aw}{ia ib:Nat}(h:Mg rk a b out ia ib)(e:ia + 1=a.size):GX rk a b (out++b.extract ib b.size++a.extract ia a.size):=by refine h.ada m.sa m.sb fun y hy x hx=>?_;obtain⟨x',hx'⟩:=eZ (xs:=a) (i:=ia) (by lia);have e1:=m.last y (List.mem_of_mem_drop hy);rw[show a.size - 1=ia by lia,jg hx']at e1;exact d_ e1 (qx m.sa hx' hx)
theorem Rv.afW(m:Rv prog w A s κ rk a₀ a b){out:Array aw}{ia ib:Nat}(h:Mg rk a b out ia ib)(e:ib=b.size):GX rk a b (out++a.extract ia a.size++b.extract ib b.size):=by refine h.done m.sa m.sb fun x hx y hy=>?_;subst e;rw[ll (by simp)]at hy;cases hy
def LoQ(rk:aw->Int)(a b:Array aw)(κ:eL)(st:a_)(n:Nat):ForInStep LoS->a_->Prop:=fun r st'=>cX st st'/\match r with
 | .done c=>(∃m,c.1=some m/\GX rk a b m)∨(c.1=none/\Mg rk a b c.2.1 c.2.2.1 c.2.2.2.1/\c.2.2.1 + 1 < a.size/\c.2.2.2.1 < b.size/\n<=c.2.1.size)
 | .yield c=>c.1=none/\Mg rk a b c.2.1 c.2.2.1 c.2.2.2.1/\c.2.2.1 + 1 < a.size/\c.2.2.2.1 < b.size/\n < c.2.1.size
theorem JD(m:Rv prog w A s κ rk a₀ a b){out:Array aw}{ia ib mg ac bc n:Nat}{st0 st:a_}(hS:cX st0 st)(h:Mg rk a b out ia ib)(h1:ia + 1 < a.size)(h2:ib < b.size)(hn:n<=out.size)(hc:∀x y,a[ia]?=some x->y∈b.toList.drop ib->rk x<=rk y) :
  wpS (ar prog w) A E s (Zd a b out ia ib mg ac bc) (LoQ rk a b κ st0 n) st:=by
 unfold Zd;obtain⟨x,hx⟩:=eZ (xs:=a) (i:=ia) (by lia);refine aI (bY hx ?_);have h':=h.Ai m.sa hx (fun y hy=>hc x y hx hy);have sz:n < (out.push x).size:=by rw[gE];lia
 split
 ·rename_i e;exact ba ⟨hS,.inl ⟨_,rfl,m.Ze h' (by simpa using e)⟩⟩
 ·rename_i e;have e':ia + 1 + 1 < a.size:=by
   have:¬ia + 1 + 1=a.size:=by simpa using e
   lia
  split
  ·exact ba ⟨hS,.inr ⟨rfl,h',e',h2,fv sz⟩⟩
  ·exact ba ⟨hS,rfl,h',e',h2,sz⟩
theorem Eh(m:Rv prog w A s κ rk a₀ a b){out:Array aw}{ia ib mg ac bc n:Nat}{st0 st:a_}(hk:kindOf st=κ)(hS:cX st0 st)(h:Mg rk a b out ia ib)(h1:ia + 1 < a.size)(h2:ib < b.size)(hn:n<=out.size)(hc:∀y x,b[ib]?=some y->x∈a.toList.drop ia->rk y<=rk x) :
  wpS (ar prog w) A E s (LR a b out ia ib mg ac bc) (LoQ rk a b κ st0 n) st:=by
 unfold LR;obtain⟨y,hy⟩:=eZ (xs:=b) (i:=ib) h2;refine aI (bY hy ?_);have h':=h.JC m.sb hy (fun x hx=>hc y x hy hx);have sz:n < (out.push y).size:=by rw[gE];lia
 split
 ·rename_i e;exact ba ⟨hS,.inl ⟨_,rfl,m.afW h' (by simpa using e)⟩⟩
 ·rename_i e;have e':ib + 1 < b.size:=by
   have:¬ib + 1=b.size:=by simpa using e
   lia
  obtain⟨x,hx⟩:=eZ (xs:=a) (i:=ia) (by lia);refine aI (bY hx ?_);refine aI (jW m.h0 hk (m.ma x (oM hx)) m.mb (by lia) (by lia) (Rt m.sb _ _ (by lia)) fun k k1 k2 k3=>?_);have chunk:∀z∈(b.toList.drop (ib + 1)).take k,∀v∈a.toList.drop ia,rk z<=rk v:=fun z hz v hv=>by
   obtain⟨j,hj,ej⟩:=ni hz;have:=k2 j hj;unfold bp at this;rw[jg ej]at this;have q:rk z < rk x:=by simpa using this
   exact d_ (fR q) (qx m.sa hx hv)
  have rest:∀v,v∈b.toList.drop (ib + 1 + k)->rk x<=rk v:=fun v hv=>by obtain⟨j,hj,ej⟩:=CW hv;rw[oo (ib + 1) k j]at ej;have:=k3 (k + j) (by lia) (by lia);unfold bp at this;rw[jg ej]at this;simpa using this
  dsimp only;split
  ·rename_i kp;have h'':=h'.LQ m.sb (k:=k) (by lia) chunk;have sz':n<=(out.push y++b.extract (ib + 1) (ib + 1 + k)).size:=by rw[kH];lia
   split
   ·rename_i e2;exact ba ⟨hS,.inl ⟨_,rfl,m.afW h'' (by simpa using e2)⟩⟩
   ·rename_i e2;have e2':ib + 1 + k < b.size:=by
     have:¬ib + 1 + k=b.size:=by simpa using e2
     lia
    exact JD m hS h'' h1 e2' sz' fun x' v hx' hv=>by rw[hx]at hx';cases hx';exact rest v hv
  ·rename_i kp;obtain rfl:k=0:=by lia
   exact JD m hS h' h1 e' (fv sz) fun x' v hx' hv=>by rw[hx]at hx';cases hx';exact rest v hv
end
section
variable{prog:aE}{w:ay}{A:a8}{E:aa->ae->Prop}{s:ae}{a₀:Array aw}{κ:eL}{rk:aw->Int}{a b:Array aw}
theorem Mg.nil:Mg rk a b #[] 0 0:=⟨d7 _,d7 _,rfl,by simp,by simp,fun x hx=>by simp at hx⟩
theorem gW{a b:Nat}(h:¬(a == b)=true):a≠b:=fun e=>h (by simp[e])
theorem lM{a b:Nat}(h:(a == b)=true):a=b:=by simpa using h
theorem cF{α:Type}{c:Prop}[Decidable c]{t f:StateT a_ Sem α}{Q:α->a_->Prop}{st:a_}(ht:c->wpS (ar prog w) A E s t Q st)(hf:¬c->wpS (ar prog w) A E s f Q st):wpS (ar prog w) A E s (if c then t else f) Q st:=by
 by_cases h:c
 ·rw[if_pos h];exact ht h
 ·rw[if_neg h];exact hf h
theorem Ei(m:Rv prog w A s κ rk a₀ a b){out:Array aw}{ia ib n:Nat}{st0 st:a_}(hk:kindOf st=κ)(hS:cX st0 st)(h:Mg rk a b out ia ib)(h1:ia + 1 < a.size)(h2:ib < b.size)(hn:n<=out.size)
  {f:Option Nat->StateT a_ Sem (ForInStep LoS)}{mg bc:Nat}(hf:∀k,f (some k)=if k > 0 then
    if (ia + k + 1 == a.size)=true then pure (.done (some (out++a.extract ia (ia + k)++b.extract ib b.size++a.extract (ia + k) a.size),out++a.extract ia (ia + k),ia + k,ib,mg,k,bc))
    else if (ia + k == a.size)=true then pure (.done (some (out++a.extract ia (ia + k)++a.extract (ia + k) a.size++b.extract ib b.size),out++a.extract ia (ia + k),ia + k,ib,mg,k,bc))
    else LR a b (out++a.extract ia (ia + k)) (ia + k) ib mg k bc
   else LR a b out ia ib mg k bc) :
  wpS (ar prog w) A E s (do let y <- c4 b ib;let r <- iU false y a ia (a.size - ia) 0;f r) (LoQ rk a b κ st0 n) st:=by
 obtain⟨y,hy⟩:=eZ (xs:=b) (i:=ib) h2;refine aI (bY hy ?_);refine aI (jW m.h0 hk (m.mb y (oM hy)) m.ma (by lia) (by lia) (Rt m.sa _ _ (by lia)) fun k k1 k2 k3=>?_);rw[hf];have chunk:∀z∈(a.toList.drop ia).take k,∀v∈b.toList.drop ib,rk z<=rk v:=fun z hz v hv=>by
  obtain⟨j,hj,ej⟩:=ni hz;have:=k2 j hj;unfold bp at this;rw[jg ej]at this;have q:rk z<=rk y:=by simpa using this
  exact d_ q (qx m.sb hy hv)
 have rest:∀v,v∈a.toList.drop (ia + k)->rk y<=rk v:=fun v hv=>by
  obtain⟨j,hj,ej⟩:=CW hv;rw[oo ia k j]at ej;have:=k3 (k + j) (by lia) (by lia);unfold bp at this;rw[jg ej]at this;have q:rk y < rk v:=by simpa using this
  exact fR q
 split
 ·rename_i kp;have h':=h.sG m.sa (k:=k) (by lia) chunk;have sz':n<=(out++a.extract ia (ia + k)).size:=by rw[kH];lia
  split
  ·rename_i e;exact ba ⟨hS,.inl ⟨_,rfl,m.Ze h' (lM e)⟩⟩
  ·rename_i e;have e:=gW e;split
   ·rename_i e2;refine ba ⟨hS,.inl ⟨_,rfl,h'.done m.sa m.sb fun x hx=>?_⟩⟩;rw[lM e2,ll (by simp)]at hx;cases hx
   ·rename_i e2;have e2:=gW e2;exact Eh m hk hS h' (by lia) h2 sz' fun y' x hy' hx=>by rw[hy]at hy';cases hy';exact rest x hx
 ·rename_i kp;obtain rfl:k=0:=by lia
  exact Eh m hk hS h h1 h2 hn fun y' x hy' hx=>by rw[hy]at hy';cases hy';exact rest x hx
theorem Rw(m:Rv prog w A s κ rk a₀ a b){st:a_}(hk:kindOf st=κ){Q:Array aw->a_->Prop}(h:∀mm st',cX st st'->GX rk a b mm->Q mm st') :
  wpS (ar prog w) A E s (Ef a b) Q st:=by
 rw[Ru];dsimp only;refine aI (kG (g_ ⟨rfl,?_⟩));obtain⟨y0,hy0⟩:=eZ (xs:=b) (i:=0) m.lb;obtain⟨x0,hx0⟩:=eZ (xs:=a) (i:=0) m.la;refine aI (bY hy0 ?_);have l0:=m.lt0;rw[jg hy0,jg hx0]at l0;have M0:Mg rk a b #[y0] 0 1:=Mg.nil.JC m.sb hy0 fun v hv=>d_ (fR l0) (qx m.sa hx0 hv);have la:=m.la;have lb:=m.lb;refine cF (fun e=>ba (h _ _ (.refl _) (m.afW M0 (lM e)))) fun e1=>?_;have e1:=gW e1;refine cF (fun e=>ba (h _ _ (.refl _) (m.Ze M0 (lM e)))) fun e2=>?_;have e2:=gW e2;refine aI (gy ?_);refine aI (d8 (eD (I:=fun x c st'=>cX st st'/\∃out ia ib mg,c=(none,out,ia,ib,mg)/\Mg rk a b out ia ib/\ia + 1 < a.size/\ib < b.size/\x + 1<=out.size)
  (Q:=fun c st'=>cX st st'/\∃mm rest,c=(some mm,rest)/\GX rk a b mm) ?step ?gD ⟨.refl _,#[y0],0,1,_,rfl,M0,by lia,by lia,by simp⟩) ?post)
 case post =>
  rintro c st' ⟨hS,mm,rest,rfl,hr⟩;exact ba (h mm st' hS hr)
 case gD =>
  rintro c st' ⟨hS,out,ia,ib,mg,rfl,hM,h1,h2,h3⟩;have:=hM.sz;lia
 case step =>
  rintro x c st' _ hx ⟨hS,out,ia,ib,mg,rfl,hM,h1,h2,h3⟩;dsimp only;refine aI (d8 (eD (I:=fun y c st''=>cX st st''/\∃out ia ib ac bc,c=(none,out,ia,ib,ac,bc)/\Mg rk a b out ia ib/\ia + 1 < a.size/\ib < b.size/\x + 1 + y<=out.size)
   (Q:=fun c st''=>cX st st''/\((∃mm rest,c=(some mm,rest)/\GX rk a b mm)∨∃out ia ib ac bc,c=(none,out,ia,ib,ac,bc)/\Mg rk a b out ia ib/\ia + 1 < a.size/\ib < b.size/\x + 2<=out.size)) ?istep ?ifin ⟨hS,out,ia,ib,0,0,rfl,hM,h1,h2,by lia⟩) ?ipost)
  case ifin =>
   rintro c st'' ⟨hS,out,ia,ib,ac,bc,rfl,hM,h1,h2,h3⟩;have:=hM.sz;lia
  case istep =>
   rintro y c st'' _ hy ⟨hS,out,ia,ib,ac,bc,rfl,hM,h1,h2,h3⟩;dsimp only;obtain⟨p,hp⟩:=eZ (xs:=b) (i:=ib) h2;obtain⟨q,hq⟩:=eZ (xs:=a) (i:=ia) (by lia);refine aI (bY hp (aI (bY hq (aI (Ec m.h0 (hS.2.1.trans hk) (m.mb p (oM hp)) (m.ma q (oM hq)) ?_)))));by_cases c:rk p < rk q
   ·simp only[c,decide_true,if_true];refine aI (bY hp ?_);have hM':=hM.JC m.sb hp fun v hv=>d_ (fR c) (qx m.sa hq hv);split
    ·rename_i e;exact ba ⟨hS,.inl ⟨_,_,rfl,m.afW hM' (lM e)⟩⟩
    ·rename_i e;have e:=gW e;split
     ·exact ba ⟨hS,.inr ⟨_,_,_,_,_,rfl,hM',h1,by lia,by rw[gE];lia⟩⟩
     ·exact ba ⟨hS,_,_,_,_,_,rfl,hM',h1,by lia,by rw[gE];lia⟩
   ·simp only[c,decide_false,bq,if_false];refine aI (bY hq ?_);have hM':=hM.Ai m.sa hq fun v hv=>d_ (oj.mp c) (qx m.sb hp hv);split
    ·rename_i e;exact ba ⟨hS,.inl ⟨_,_,rfl,m.Ze hM' (lM e)⟩⟩
    ·rename_i e;have e:=gW e;split
     ·exact ba ⟨hS,.inr ⟨_,_,_,_,_,rfl,hM',by lia,h2,by rw[gE];lia⟩⟩
     ·exact ba ⟨hS,_,_,_,_,_,rfl,hM',by lia,h2,by rw[gE];lia⟩
  case ipost =>
   rintro c st'' ⟨hS,⟨mm,rest,rfl,hr⟩|⟨out,ia,ib,ac,bc,rfl,hM,h1,h2,h3⟩⟩
   ·exact ba ⟨hS,mm,_,rfl,hr⟩
   ·dsimp only;refine aI (kG (g_ ⟨rfl,?_⟩));refine aI (d8 (eD (I:=fun y c st3=>cX st st3/\∃out ia ib mg ac bc,c=(none,out,ia,ib,mg,ac,bc)/\Mg rk a b out ia ib/\ia + 1 < a.size/\ib < b.size/\x + 2 + y<=out.size)
     (Q:=fun c st3=>cX st st3/\((∃mm rest,c=(some mm,rest)/\GX rk a b mm)∨∃out ia ib mg ac bc,c=(none,out,ia,ib,mg,ac,bc)/\Mg rk a b out ia ib/\ia + 1 < a.size/\ib < b.size/\x + 2<=out.size)) ?adb ?ajx ⟨hS,out,ia,ib,_,ac,bc,rfl,hM,h1,h2,by lia⟩) ?ade)
    case ajx =>
     rintro c st3 ⟨hS,out,ia,ib,mg,ac,bc,rfl,hM,h1,h2,h3⟩;have:=hM.sz;lia
    case ade =>
     rintro c st3 ⟨hS,⟨mm,rest,rfl,hr⟩|⟨out,ia,ib,mg,ac,bc,rfl,hM,h1,h2,h3⟩⟩
     ·exact ba ⟨hS,mm,_,rfl,hr⟩
     ·dsimp only;refine aI (pJ fun Ju GR=>?_);exact ba ⟨hS.trans GR,_,_,_,_,rfl,hM,h1,h2,by lia⟩
    case adb =>
     rintro y c st3 _ hy ⟨hS,out,ia,ib,mg,ac,bc,rfl,hM,h1,h2,h3⟩;have cD:∀(c:LoS) (st':a_),LoQ rk a b κ st (x + 2 + y) (.done c) st'->cX st st'/\((∃mm rest,c=(some mm,rest)/\GX rk a b mm)∨∃out ia ib mg ac bc,c=(none,out,ia,ib,mg,ac,bc)/\Mg rk a b out ia ib/\ia + 1 < a.size/\ib < b.size/\x + 2<=out.size):=by
      rintro⟨c1,out,ia,ib,mg,ac,bc⟩ st' ⟨hS,⟨mm,e,hr⟩|⟨e,hM,h1,h2,h3⟩⟩
      ·cases e;exact⟨hS,.inl ⟨mm,_,rfl,hr⟩⟩
      ·cases e;dsimp only at h1 h2 h3;exact⟨hS,.inr ⟨_,_,_,_,_,_,rfl,hM,h1,h2,by lia⟩⟩
     have cY:∀(c:LoS) (st':a_),LoQ rk a b κ st (x + 2 + y) (.yield c) st'->cX st st'/\∃out ia ib mg ac bc,c=(none,out,ia,ib,mg,ac,bc)/\Mg rk a b out ia ib/\ia + 1 < a.size/\ib < b.size/\x + 2 + (y + 1)<=out.size:=by rintro⟨c1,out,ia,ib,mg,ac,bc⟩ st' ⟨hS,e,hM,h1,h2,h3⟩;cases e;dsimp only at h1 h2 h3;exact⟨hS,_,_,_,_,_,_,rfl,hM,h1,h2,by lia⟩
     dsimp only;refine cF (fun _=>?_) (fun _=>?_)
     ·refine aI (pJ fun Ju GR=>?_);exact d8 (Ei m ((hS.trans GR).2.1.trans hk) (hS.trans GR) hM h1 h2 h3 (fun k=>rfl)) fun r st' hq=>match r,hq with|.done c,hq=>cD c st' hq|.yield c,hq=>cY c st' hq
     ·refine aI (pJ fun Ju GR=>?_);exact d8 (Ei m ((hS.trans GR).2.1.trans hk) (hS.trans GR) hM h1 h2 h3 (fun k=>rfl)) fun r st' hq=>match r,hq with|.done c,hq=>cD c st' hq|.yield c,hq=>cY c st' hq
end
def Ej:Array Keyed->Array Keyed->StateT SortSt Sem (Array Keyed):=sortPriv% PySem.Builtin.mergeHi
theorem Rx(a b:Array aw):Ej a b=(do
 rule "list.sort.merge-hi"
 let total:=a.size + b.size
 let done (out:Array aw) (na nb:Nat):=a.extract 0 na++b.extract 0 nb++out.reverse
 let firstOfB (out:Array aw) (na nb:Nat):=b.extract 0 nb++a.extract 0 na++out.reverse
 let mut na:=a.size - 1
 let mut nb:=b.size
 let mut out:Array aw:=#[<- c4 a na]
 if na == 0 then return done out na nb
 if nb == 1 then return firstOfB out na nb
 let mut minGallop:=gallopOf (<- get)
 for _ in [0:total] do
  let mut acount:=0
  let mut bcount:=0
  for _ in [0:total] do
   let some aWins <- lt' (<- c4 b (nb - 1)) (<- c4 a (na - 1))|return done out na nb
   if aWins then
    na:=na - 1;out:=out.push (<- c4 a na);acount:=acount + 1;bcount:=0
    if na == 0 then return done out na nb
    if acount ≥ minGallop then break
   else
    nb:=nb - 1;out:=out.push (<- c4 b nb);bcount:=bcount + 1;acount:=0
    if nb == 1 then return firstOfB out na nb
    if bcount ≥ minGallop then break
  rule "list.sort.gallop"
  minGallop:=minGallop + 1
  for _ in [0:total] do
   if minGallop > 1 then minGallop:=minGallop - 1
   pI minGallop
   let some at_ <- iU false (<- c4 b (nb - 1)) a 0 na (na - 1)|return done out na nb
   let k:=na - at_
   acount:=k
   if k > 0 then
    out:=out++(a.extract at_ na).reverse;na:=at_
    if na == 0 then return done out na nb
   nb:=nb - 1;out:=out.push (<- c4 b nb)
   if nb == 1 then return firstOfB out na nb
   let some at_ <- iU true (<- c4 a (na - 1)) b 0 nb (nb - 1)|return done out na nb
   let k:=nb - at_
   bcount:=k
   if k > 0 then
    out:=out++(b.extract at_ nb).reverse;nb:=at_
    if nb == 1 then return firstOfB out na nb
    if nb == 0 then return done out na nb
   na:=na - 1;out:=out.push (<- c4 a na)
   if na == 0 then return done out na nb
   if acount < 7 && bcount < 7 then break
  minGallop:=minGallop + 1
  pI minGallop
 unsupported "internal:list.sort.merge-bound"):=rfl
structure Mh (rk:aw->Int)(a b out:Array aw)(na nb:Nat):Prop where
 ha:na<=a.size
 hb:nb<=b.size
 sz:out.size + (na + nb)=a.size + b.size
 pm:((a.toList.take na++b.toList.take nb)++out.toList.reverse).Perm (a.toList++b.toList)
 up:gM rk out.toList.reverse
 bd:∀y∈a.toList.take na++b.toList.take nb,∀x∈out.toList,rk y<=rk x
section
variable{rk:aw->Int}{a b out:Array aw}{na nb k:Nat}{x y:aw}
theorem Wt(l:List aw){i n:Nat}(h:i<=n):l.take n=l.take i++(l.take n).drop i:=by
 conv=>lhs;rw[<- l4 i (l.take n)]
 rw[List.take_take,Nat.min_eq_left h]
theorem Mh.sG(h:Mh rk a b out na nb)(sa:gM rk a.toList)(hk:k<=na)(hc:∀x∈(a.toList.take na).drop k,∀y∈b.toList.take nb,rk y<=rk x):Mh rk a b (out++(a.extract k na).reverse) k nb:=by
 have ha:=h.ha;have e:(a.extract k na).toList=(a.toList.take na).drop k:=by rw[qw,List.drop_take]
 have sp:=Wt a.toList hk;have sd:gM rk (a.toList.take na):=i8 (m8 _ _) sa;rw[sp]at sd;obtain⟨s1,s2,s3⟩:=gp.mp sd;have er:(out++(a.extract k na).reverse).toList.reverse=(a.toList.take na).drop k++out.toList.reverse:=by rw[ir,List.reverse_append,Array.toList_reverse,List.reverse_reverse,e]
 refine⟨by lia,h.hb,?_,?_,?_,?_⟩
 ·have:=h.sz;rw[kH,Array.size_reverse,qV];lia
 ·rw[er];refine g7.trans ?_ h.pm
  conv=>rhs;rw[sp]
  simp only[gN];refine n5 _ ?_;rw[<- gN,<- gN];exact u4 _ j5
 ·rw[er];refine gp.mpr ⟨s2,h.up,fun x hx y hy=>h.bd x ?_ y (oq.mp hy)⟩;rw[sp];simp[hx]
 ·intro y hy x hx;have hx':x∈(a.toList.take na).drop k++out.toList.reverse:=by rw[<- er];exact oq.mpr hx
  rcases dq.mp hx' with hx|hx
  ·rcases dq.mp hy with hy|hy
   ·exact s3 y hy x hx
   ·exact hc x hx y hy
  ·refine h.bd y ?_ x (oq.mp hx);rw[sp];rcases dq.mp hy with hy|hy <;> simp[hy]
theorem Mh.swap(h:Mh rk a b out na nb):Mh rk b a out nb na:=by
 refine⟨h.hb,h.ha,by have:=h.sz;lia,?_,h.up,fun y hy x hx=>h.bd y ?_ x hx⟩
 ·exact(u4 _ j5).trans (h.pm.trans j5)
 ·rcases dq.mp hy with hy|hy <;> simp[hy]
theorem Mh.LQ(h:Mh rk a b out na nb)(sb:gM rk b.toList)(hk:k<=nb)(hc:∀y∈(b.toList.take nb).drop k,∀x∈a.toList.take na,rk x<=rk y):Mh rk a b (out++(b.extract k nb).reverse) na k :=
 (h.swap.sG sb hk hc).swap
theorem adf{a:Array aw}{n:Nat}{x:aw}(hn:0 < n)(h:a[n - 1]?=some x):out.push x=out++(a.extract (n - 1) n).reverse:=by
 have e:=Zc (out:=#[]) h;have e2:a.extract (n - 1) n=#[x]:=by rw[show n - 1 + 1=n by lia]at e;simpa using e.symm
 rw[e2];rfl
theorem aoL{a:Array aw}{n:Nat}{x z:aw}(hn:0 < n)(h:a[n - 1]?=some x)(hz:z∈(a.toList.take n).drop (n - 1)):z=x:=by
 obtain⟨j,hj⟩:=kK.mp hz;rw[om]at hj;have hl:n - 1 + j < n:=by
  rcases mw (n - 1 + j) n with q|q
  ·exact q
  ·rw[q8 q]at hj;cases hj
 obtain rfl:j=0:=by lia
 rw[k6 hl]at hj;have:a[n - 1]?=some z:=by simpa using hj
 rw[this]at h;cases h;rfl
theorem wI{a:Array aw}{n:Nat}{x z:aw}(hn:0 < n)(sa:gM rk a.toList)(h:a[n - 1]?=some x)(hz:z∈a.toList.take n):rk z<=rk x:=by
 obtain⟨j,hj⟩:=kK.mp hz;have hl:j < n:=by
  rcases mw j n with q|q
  ·exact q
  ·rw[q8 q]at hj;cases hj
 rw[k6 hl]at hj;have hj':a[j]?=some z:=by simpa using hj
 obtain⟨q1,_⟩:=gT.mp hj';obtain⟨q2,_⟩:=gT.mp h;have:=Rt sa 0 a.size (by lia) j (n - 1) (by lia) (by lia);rw[iO,iO,jg hj',jg h]at this;exact this
theorem Mh.Ai(h:Mh rk a b out na nb)(sa:gM rk a.toList)(hn:0 < na)(hx:a[na - 1]?=some x)(hc:∀y∈b.toList.take nb,rk y<=rk x):Mh rk a b (out.push x) (na - 1) nb:=by
 rw[adf hn hx];exact h.sG sa (by lia) fun z hz y hy=>by rw[aoL hn hx hz];exact hc y hy
theorem Mh.JC(h:Mh rk a b out na nb)(sb:gM rk b.toList)(hn:0 < nb)(hx:b[nb - 1]?=some x)(hc:∀y∈a.toList.take na,rk y<=rk x):Mh rk a b (out.push x) na (nb - 1):=(h.swap.Ai sb hn hx hc).swap
theorem Mh.done(h:Mh rk a b out na nb)(sa:gM rk a.toList)(sb:gM rk b.toList)(hc:∀x∈a.toList.take na,∀y∈b.toList.take nb,rk x<=rk y):GX rk a b (a.extract 0 na++b.extract 0 nb++out.reverse):=by
 have e:(a.extract 0 na++b.extract 0 nb++out.reverse).toList=(a.toList.take na++b.toList.take nb)++out.toList.reverse:=by rw[ir,ir,qw,qw,Array.toList_reverse];simp
 refine⟨by rw[e];exact h.pm,?_⟩;rw[e];refine gp.mpr ⟨gp.mpr ⟨i8 (m8 _ _) sa,i8 (m8 _ _) sb,hc⟩,h.up,fun y hy x hx=>h.bd y hy x (oq.mp hx)⟩
theorem Mh.ada(h:Mh rk a b out na nb)(sa:gM rk a.toList)(sb:gM rk b.toList)(hc:∀y∈b.toList.take nb,∀x∈a.toList.take na,rk y<=rk x):GX rk a b (b.extract 0 nb++a.extract 0 na++out.reverse):=by obtain⟨h1,h2⟩:=h.swap.done sb sa hc;exact⟨h1.trans j5,h2⟩
theorem Ma{a:Array aw}{n k:Nat}{z:aw}(hz:z∈(a.toList.take n).drop k):∃j,k<=j/\j < n/\a[j]?=some z:=by
 obtain⟨j,hj⟩:=kK.mp hz;rw[om]at hj;have hl:k + j < n:=by
  rcases mw (k + j) n with q|q
  ·exact q
  ·rw[q8 q]at hj;cases hj
 rw[k6 hl]at hj;exact⟨k + j,by lia,hl,by simpa using hj⟩
theorem Zf{a:Array aw}{n:Nat}{z:aw}(hz:z∈a.toList.take n):∃j,j < n/\a[j]?=some z:=by obtain⟨j,_,h2,h3⟩:=Ma (k:=0) (by simpa using hz);exact⟨j,h2,h3⟩
theorem Mh.nil:Mh rk a b #[] a.size b.size:=⟨bj _,bj _,by simp,by rw[sT (by simp),sT (by simp)];simp,by simp,fun y _ x hx=>by simp at hx⟩
end
abbrev HiS:=Option (Array aw)×Nat×Nat×Array aw×Nat×Nat×Nat
def Zg(a b out:Array aw)(na nb mg ac bc:Nat):StateT a_ Sem (ForInStep HiS):=do
 let x <- c4 a (na - 1)
 if (na - 1 == 0)=true then pure (.done (some (a.extract 0 (na - 1)++b.extract 0 nb++(out.push x).reverse),na - 1,nb,out.push x,mg,ac,bc))
 else if (decide (ac < 7) && decide (bc < 7))=true then pure (.done (none,na - 1,nb,out.push x,mg,ac,bc))
 else pure (.yield (none,na - 1,nb,out.push x,mg,ac,bc))
def Mf(a b out:Array aw)(na nb mg ac bc:Nat):StateT a_ Sem (ForInStep HiS):=do
 let y <- c4 b (nb - 1)
 if (nb - 1 == 1)=true then pure (.done (some (b.extract 0 (nb - 1)++a.extract 0 na++(out.push y).reverse),na,nb - 1,out.push y,mg,ac,bc))
 else do
  let x <- c4 a (na - 1)
  let __x <- iU true x b 0 (nb - 1) (nb - 1 - 1)
  match __x with
  |some k =>
   if nb - 1 - k > 0 then
    if (k == 1)=true then pure (.done (some (b.extract 0 k++a.extract 0 na++(out.push y++(b.extract k (nb - 1)).reverse).reverse),na,k,out.push y++(b.extract k (nb - 1)).reverse,mg,ac,nb - 1 - k))
    else if (k == 0)=true then pure (.done (some (a.extract 0 na++b.extract 0 k++(out.push y++(b.extract k (nb - 1)).reverse).reverse),na,k,out.push y++(b.extract k (nb - 1)).reverse,mg,ac,nb - 1 - k))
    else Zg a b (out.push y++(b.extract k (nb - 1)).reverse) na k mg ac (nb - 1 - k)
   else Zg a b (out.push y) na (nb - 1) mg ac (nb - 1 - k)
  |_=>pure (.done (some (a.extract 0 na++b.extract 0 (nb - 1)++(out.push y).reverse),na,nb - 1,out.push y,mg,ac,bc))
section
variable{prog:aE}{w:ay}{A:a8}{E:aa->ae->Prop}{s:ae}{a₀:Array aw}{κ:eL}{rk:aw->Int}{a b:Array aw}
theorem Rv.afX(m:Rv prog w A s κ rk a₀ a b){out:Array aw}{na nb:Nat}(h:Mh rk a b out na nb)(e:nb=1):GX rk a b (b.extract 0 nb++a.extract 0 na++out.reverse):=by refine h.ada m.sa m.sb fun y hy x hx=>?_;subst e;obtain⟨x',hx'⟩:=eZ (xs:=a) (i:=0) m.la;obtain⟨y',hy'⟩:=eZ (xs:=b) (i:=0) m.lb;have e1:=m.lt0;rw[jg hx',jg hy']at e1;have e2:=wI (n:=1) (by lia) m.sb hy' hy;have e3:=qx (i:=0) m.sa hx' (by simpa using pV hx);lia
theorem Rv.noA(m:Rv prog w A s κ rk a₀ a b){out:Array aw}{na nb:Nat}(h:Mh rk a b out na nb)(e:na=0):GX rk a b (a.extract 0 na++b.extract 0 nb++out.reverse):=by refine h.done m.sa m.sb fun x hx=>?_;subst e;simp at hx
def HiQ(rk:aw->Int)(a b:Array aw)(κ:eL)(st:a_)(n:Nat):ForInStep HiS->a_->Prop:=fun r st'=>cX st st'/\match r with
 | .done c=>(∃m,c.1=some m/\GX rk a b m)∨(c.1=none/\Mh rk a b c.2.2.2.1 c.2.1 c.2.2.1/\0 < c.2.1/\1 < c.2.2.1/\n<=c.2.2.2.1.size)
 | .yield c=>c.1=none/\Mh rk a b c.2.2.2.1 c.2.1 c.2.2.1/\0 < c.2.1/\1 < c.2.2.1/\n < c.2.2.2.1.size
theorem JF(m:Rv prog w A s κ rk a₀ a b){out:Array aw}{na nb mg ac bc n:Nat}{st0 st:a_}(hS:cX st0 st)(h:Mh rk a b out na nb)(h1:0 < na)(h2:1 < nb)(hn:n<=out.size)(hc:∀x y,a[na - 1]?=some x->y∈b.toList.take nb->rk y<=rk x) :
  wpS (ar prog w) A E s (Zg a b out na nb mg ac bc) (HiQ rk a b κ st0 n) st:=by
 unfold Zg;have ha:=h.ha;obtain⟨x,hx⟩:=eZ (xs:=a) (i:=na - 1) (by lia);refine aI (bY hx ?_);have h':=h.Ai m.sa h1 hx (fun y hy=>hc x y hx hy);have sz:n < (out.push x).size:=by rw[gE];lia
 refine cF (fun e=>ba ⟨hS,.inl ⟨_,rfl,m.noA h' (lM e)⟩⟩) fun e=>?_;have e:=gW e;exact cF (fun _=>ba ⟨hS,.inr ⟨rfl,h',by show 0 < na - 1;lia,h2,fv sz⟩⟩) fun _=>ba ⟨hS,rfl,h',by show 0 < na - 1;lia,h2,sz⟩
theorem Ek(m:Rv prog w A s κ rk a₀ a b){out:Array aw}{na nb mg ac bc n:Nat}{st0 st:a_}(hk:kindOf st=κ)(hS:cX st0 st)(h:Mh rk a b out na nb)(h1:0 < na)(h2:1 < nb)(hn:n<=out.size)(hc:∀y x,b[nb - 1]?=some y->x∈a.toList.take na->rk x<=rk y) :
  wpS (ar prog w) A E s (Mf a b out na nb mg ac bc) (HiQ rk a b κ st0 n) st:=by
 unfold Mf;have ha:=h.ha;have hb:=h.hb;obtain⟨y,hy⟩:=eZ (xs:=b) (i:=nb - 1) (by lia);refine aI (bY hy ?_);have h':=h.JC m.sb (by lia) hy (fun x hx=>hc y x hy hx);have sz:n < (out.push y).size:=by rw[gE];lia
 refine cF (fun e=>ba ⟨hS,.inl ⟨_,rfl,m.afX h' (lM e)⟩⟩) fun e=>?_;have e:=gW e;obtain⟨x,hx⟩:=eZ (xs:=a) (i:=na - 1) (by lia);refine aI (bY hx ?_);refine aI (jW m.h0 hk (m.ma x (oM hx)) m.mb (by lia) (by lia) (Rt m.sb _ _ (by lia)) fun k k1 k2 k3=>?_);have chunk:∀z∈(b.toList.take (nb - 1)).drop k,∀v∈a.toList.take na,rk v<=rk z:=fun z hz v hv=>by
  obtain⟨j,j1,j2,ej⟩:=Ma hz;have:=k3 j j1 j2;unfold bp at this;rw[iO,jg ej]at this;have q:rk x<=rk z:=by simpa using this
  exact d_ (wI h1 m.sa hx hv) q
 have rest:∀v,v∈b.toList.take k->rk v<=rk x:=fun v hv=>by
  obtain⟨j,hj,ej⟩:=Zf hv;have:=k2 j hj;unfold bp at this;rw[iO,jg ej]at this;have q:rk v < rk x:=by simpa using this
  exact fR q
 dsimp only;refine cF (fun kp=>?_) fun kp=>?_
 ·have h'':=h'.LQ m.sb (k:=k) (by lia) chunk;have sz':n<=(out.push y++(b.extract k (nb - 1)).reverse).size:=by rw[kH];lia
  refine cF (fun e2=>ba ⟨hS,.inl ⟨_,rfl,m.afX h'' (lM e2)⟩⟩) fun e2=>?_;have e2:=gW e2;refine cF (fun e3=>ba ⟨hS,.inl ⟨_,rfl,h''.done m.sa m.sb fun x _ y hy=>?_⟩⟩) fun e3=>?_
  ·rw[lM e3]at hy;simp at hy
  ·have e3:=gW e3;exact JF m hS h'' h1 (by lia) sz' fun x' v hx' hv=>by rw[hx]at hx';cases hx';exact rest v hv
 ·obtain rfl:k=nb - 1:=by lia
  exact JF m hS h' h1 (by lia) (fv sz) fun x' v hx' hv=>by rw[hx]at hx';cases hx';exact rest v hv
theorem El(m:Rv prog w A s κ rk a₀ a b){out:Array aw}{na nb n:Nat}{st0 st:a_}(hk:kindOf st=κ)(hS:cX st0 st)(h:Mh rk a b out na nb)(h1:0 < na)(h2:1 < nb)(hn:n<=out.size)
  {f:Option Nat->StateT a_ Sem (ForInStep HiS)}{mg bc:Nat}(hf:∀k,f (some k)=if na - k > 0 then
    if (k == 0)=true then pure (.done (some (a.extract 0 k++b.extract 0 nb++(out++(a.extract k na).reverse).reverse),k,nb,out++(a.extract k na).reverse,mg,na - k,bc))
    else Mf a b (out++(a.extract k na).reverse) k nb mg (na - k) bc
   else Mf a b out na nb mg (na - k) bc) :
  wpS (ar prog w) A E s (do let y <- c4 b (nb - 1);let r <- iU false y a 0 na (na - 1);f r) (HiQ rk a b κ st0 n) st:=by
 have ha:=h.ha;have hb:=h.hb;obtain⟨y,hy⟩:=eZ (xs:=b) (i:=nb - 1) (by lia);refine aI (bY hy ?_);refine aI (jW m.h0 hk (m.mb y (oM hy)) m.ma (by lia) (by lia) (Rt m.sa _ _ (by lia)) fun k k1 k2 k3=>?_);rw[hf];have chunk:∀z∈(a.toList.take na).drop k,∀v∈b.toList.take nb,rk v<=rk z:=fun z hz v hv=>by
  obtain⟨j,j1,j2,ej⟩:=Ma hz;have:=k3 j j1 j2;unfold bp at this;rw[iO,jg ej]at this;have q:rk y < rk z:=by simpa using this
  exact d_ (wI (by lia) m.sb hy hv) (fR q)
 have rest:∀v,v∈a.toList.take k->rk v<=rk y:=fun v hv=>by obtain⟨j,hj,ej⟩:=Zf hv;have:=k2 j hj;unfold bp at this;rw[iO,jg ej]at this;simpa using this
 refine cF (fun kp=>?_) fun kp=>?_
 ·have h':=h.sG m.sa (k:=k) (by lia) chunk;have sz':n<=(out++(a.extract k na).reverse).size:=by rw[kH];lia
  refine cF (fun e=>ba ⟨hS,.inl ⟨_,rfl,m.noA h' (lM e)⟩⟩) fun e=>?_;have e:=gW e;exact Ek m hk hS h' (by lia) h2 sz' fun y' x hy' hx=>by rw[hy]at hy';cases hy';exact rest x hx
 ·obtain rfl:k=na:=by lia
  exact Ek m hk hS h h1 h2 hn fun y' x hy' hx=>by rw[hy]at hy';cases hy';exact rest x hx
theorem Ry(m:Rv prog w A s κ rk a₀ a b){st:a_}(hk:kindOf st=κ){Q:Array aw->a_->Prop}(h:∀mm st',cX st st'->GX rk a b mm->Q mm st') :
  wpS (ar prog w) A E s (Ej a b) Q st:=by
 rw[Rx];dsimp only;have la:=m.la;have lb:=m.lb;refine aI (kG (g_ ⟨rfl,?_⟩));obtain⟨x0,hx0⟩:=eZ (xs:=a) (i:=a.size - 1) (by lia);refine aI (bY hx0 ?_);have M0:Mh rk a b #[x0] (a.size - 1) b.size:=Mh.nil.Ai m.sa la hx0 fun v hv=>by have:=m.last v (pV hv);rwa [jg hx0]at this
 refine cF (fun e=>ba (h _ _ (.refl _) (m.noA M0 (lM e)))) fun e1=>?_;have e1:=gW e1;refine cF (fun e=>ba (h _ _ (.refl _) (m.afX M0 (lM e)))) fun e2=>?_;have e2:=gW e2;refine aI (gy ?_);refine aI (d8 (eD (I:=fun x c st'=>cX st st'/\∃na nb out mg,c=(none,na,nb,out,mg)/\Mh rk a b out na nb/\0 < na/\1 < nb/\x + 1<=out.size)
  (Q:=fun c st'=>cX st st'/\∃mm rest,c=(some mm,rest)/\GX rk a b mm) ?step ?gD ⟨.refl _,_,_,#[x0],_,rfl,M0,by lia,by lia,by simp⟩) ?post)
 case post =>
  rintro c st' ⟨hS,mm,rest,rfl,hr⟩;exact ba (h mm st' hS hr)
 case gD =>
  rintro c st' ⟨hS,na,nb,out,mg,rfl,hM,h1,h2,h3⟩;have:=hM.sz;lia
 case step =>
  rintro x c st' _ hx ⟨hS,na,nb,out,mg,rfl,hM,h1,h2,h3⟩;dsimp only;refine aI (d8 (eD (I:=fun y c st''=>cX st st''/\∃na nb out ac bc,c=(none,na,nb,out,ac,bc)/\Mh rk a b out na nb/\0 < na/\1 < nb/\x + 1 + y<=out.size)
   (Q:=fun c st''=>cX st st''/\((∃mm rest,c=(some mm,rest)/\GX rk a b mm)∨∃na nb out ac bc,c=(none,na,nb,out,ac,bc)/\Mh rk a b out na nb/\0 < na/\1 < nb/\x + 2<=out.size)) ?istep ?ifin ⟨hS,na,nb,out,0,0,rfl,hM,h1,h2,by lia⟩) ?ipost)
  case ifin =>
   rintro c st'' ⟨hS,na,nb,out,ac,bc,rfl,hM,h1,h2,h3⟩;have:=hM.sz;lia
  case istep =>
   rintro y c st'' _ hy ⟨hS,na,nb,out,ac,bc,rfl,hM,h1,h2,h3⟩;dsimp only;have ha:=hM.ha;have hb:=hM.hb;obtain⟨p,hp⟩:=eZ (xs:=b) (i:=nb - 1) (by lia);obtain⟨q,hq⟩:=eZ (xs:=a) (i:=na - 1) (by lia);refine aI (bY hp (aI (bY hq (aI (Ec m.h0 (hS.2.1.trans hk) (m.mb p (oM hp)) (m.ma q (oM hq)) ?_)))));by_cases c:rk p < rk q
   ·simp only[c,decide_true,if_true];refine aI (bY hq ?_);have hM':=hM.Ai m.sa h1 hq fun v hv=>d_ (wI (by lia) m.sb hp hv) (fR c);refine cF (fun e=>ba ⟨hS,.inl ⟨_,_,rfl,m.noA hM' (lM e)⟩⟩) fun e=>?_;have e:=gW e;exact cF (fun _=>ba ⟨hS,.inr ⟨_,_,_,_,_,rfl,hM',by lia,h2,by rw[gE];lia⟩⟩) fun _=>ba ⟨hS,_,_,_,_,_,rfl,hM',by lia,h2,by rw[gE];lia⟩
   ·simp only[c,decide_false,bq,if_false];refine aI (bY hp ?_);have hM':=hM.JC m.sb (by lia) hp fun v hv=>d_ (wI h1 m.sa hq hv) (oj.mp c);refine cF (fun e=>ba ⟨hS,.inl ⟨_,_,rfl,m.afX hM' (lM e)⟩⟩) fun e=>?_;have e:=gW e;exact cF (fun _=>ba ⟨hS,.inr ⟨_,_,_,_,_,rfl,hM',h1,by lia,by rw[gE];lia⟩⟩) fun _=>ba ⟨hS,_,_,_,_,_,rfl,hM',h1,by lia,by rw[gE];lia⟩
  case ipost =>
   rintro c st'' ⟨hS,⟨mm,rest,rfl,hr⟩|⟨na,nb,out,ac,bc,rfl,hM,h1,h2,h3⟩⟩
   ·exact ba ⟨hS,mm,_,rfl,hr⟩
   ·dsimp only;refine aI (kG (g_ ⟨rfl,?_⟩));refine aI (d8 (eD (I:=fun y c st3=>cX st st3/\∃na nb out mg ac bc,c=(none,na,nb,out,mg,ac,bc)/\Mh rk a b out na nb/\0 < na/\1 < nb/\x + 2 + y<=out.size)
     (Q:=fun c st3=>cX st st3/\((∃mm rest,c=(some mm,rest)/\GX rk a b mm)∨∃na nb out mg ac bc,c=(none,na,nb,out,mg,ac,bc)/\Mh rk a b out na nb/\0 < na/\1 < nb/\x + 2<=out.size)) ?adb ?ajx ⟨hS,na,nb,out,_,ac,bc,rfl,hM,h1,h2,by lia⟩) ?ade)
    case ajx =>
     rintro c st3 ⟨hS,na,nb,out,mg,ac,bc,rfl,hM,h1,h2,h3⟩;have:=hM.sz;lia
    case ade =>
     rintro c st3 ⟨hS,⟨mm,rest,rfl,hr⟩|⟨na,nb,out,mg,ac,bc,rfl,hM,h1,h2,h3⟩⟩
     ·exact ba ⟨hS,mm,_,rfl,hr⟩
     ·dsimp only;refine aI (pJ fun Ju GR=>?_);exact ba ⟨hS.trans GR,_,_,_,_,rfl,hM,h1,h2,by lia⟩
    case adb =>
     rintro y c st3 _ hy ⟨hS,na,nb,out,mg,ac,bc,rfl,hM,h1,h2,h3⟩;have cD:∀(c:HiS) (st':a_),HiQ rk a b κ st (x + 2 + y) (.done c) st'->cX st st'/\((∃mm rest,c=(some mm,rest)/\GX rk a b mm)∨∃na nb out mg ac bc,c=(none,na,nb,out,mg,ac,bc)/\Mh rk a b out na nb/\0 < na/\1 < nb/\x + 2<=out.size):=by
      rintro⟨c1,na,nb,out,mg,ac,bc⟩ st' ⟨hS,⟨mm,e,hr⟩|⟨e,hM,h1,h2,h3⟩⟩
      ·cases e;exact⟨hS,.inl ⟨mm,_,rfl,hr⟩⟩
      ·cases e;dsimp only at h1 h2 h3;exact⟨hS,.inr ⟨_,_,_,_,_,_,rfl,hM,h1,h2,by lia⟩⟩
     have cY:∀(c:HiS) (st':a_),HiQ rk a b κ st (x + 2 + y) (.yield c) st'->cX st st'/\∃na nb out mg ac bc,c=(none,na,nb,out,mg,ac,bc)/\Mh rk a b out na nb/\0 < na/\1 < nb/\x + 2 + (y + 1)<=out.size:=by rintro⟨c1,na,nb,out,mg,ac,bc⟩ st' ⟨hS,e,hM,h1,h2,h3⟩;cases e;dsimp only at h1 h2 h3;exact⟨hS,_,_,_,_,_,_,rfl,hM,h1,h2,by lia⟩
     dsimp only;refine cF (fun _=>?_) (fun _=>?_)
     ·refine aI (pJ fun Ju GR=>?_);exact d8 (El m ((hS.trans GR).2.1.trans hk) (hS.trans GR) hM h1 h2 h3 (fun k=>rfl)) fun r st' hq=>match r,hq with|.done c,hq=>cD c st' hq|.yield c,hq=>cY c st' hq
     ·refine aI (pJ fun Ju GR=>?_);exact d8 (El m ((hS.trans GR).2.1.trans hk) (hS.trans GR) hM h1 h2 h3 (fun k=>rfl)) fun r st' hq=>match r,hq with|.done c,hq=>cD c st' hq|.yield c,hq=>cY c st' hq
end
theorem Rz(i:Nat):mergeAt' i=(do
 let s <- get
 let (some (sa,na,power),some (sb,nb,_)):=((bP s)[i]?,(bP s)[i + 1]?)|unsupported "internal:list.sort.pending"
 set (mx s (((bP s).setIfInBounds i (sa,na + nb,power)).eraseIdxIfInBounds (i + 1)))
 let some k <- iU false (<- c4 (ax s) sb) (ax s) sa na 0|return false
 let (sa,na):=(sa + k,na - k)
 if na == 0 then return true
 let some nb <- iU true (<- c4 (ax s) (sa + na - 1)) (ax s) sb nb (nb - 1)|return false
 if nb == 0 then return true
 let x:=(ax s).extract sa sb
 let y:=(ax s).extract sb (sb + nb)
 let merged <- if na<=nb then Ef x y else Ej x y
 modify fun s=>setArr s (merged.toList.zipIdx.foldl (fun a (p,j)=>a.setIfInBounds (sa + j) p) (ax s))
 return (eM (<- get)).isNone):=rfl
section
variable{prog:aE}{w:ay}{A:a8}{E:aa->ae->Prop}{s:ae}{a₀:Array aw}{κ:eL}{rk:aw->Int}
theorem RB{base:Nat}:∀(M:List aw) (n:Nat) (Pre Z T:List aw) (arr:Array aw),arr.toList=Pre++(Z++T)->base + n=Pre.length->M.length=Z.length ->
  ((M.zipIdx n).foldl (fun a (p:aw×Nat)=>a.setIfInBounds (base + p.2) p.1) arr).toList=Pre++(M++T)
 | [],n,Pre,Z,T,arr,h,_,hl=>by obtain rfl:Z=[]:=n4.mp hl.symm;simpa using h
 |m::M,n,Pre,Z,T,arr,h,hb,hl=>by
  cases Z with
  |nil=>cases hl
  |cons z Z =>
   have e:(arr.setIfInBounds (base + n) m).toList=(Pre++[m])++(Z++T):=by rw[Array.toList_setIfInBounds,h,hb];simp[List.set_append]
   have:=RB (base:=base) M (n + 1) (Pre++[m]) Z T _ e (by simp;lia) (by simpa using hl);rw[List.zipIdx_cons,kx,this];simp
theorem Mi{xs:Array aw}{P L S:List aw}(h:xs.toList=P++(L++S)){i:Nat}(hi:i < L.length):R rk xs (P.length + i)=rk L[i]:=by refine jg ?_;rw[<- fF,h,gi (by lia),fy (by lia)];rw[show P.length + i - P.length=i by lia,d4 hi]
theorem Wu{xs:Array aw}{P L S:List aw}(h:xs.toList=P++(L++S)):Up rk xs P.length L.length↔gM rk L:=by
 constructor
 ·intro u;refine j3.mpr ?_;intro i j hi hj hij;have:=u i j (by lia) hj;rwa [Mi h hi,Mi h hj]at this
 ·intro u i j hij hj;rw[Mi h (by lia),Mi h hj];by_cases e:i=j
  ·subst e;exact gz _
  ·exact j3.mp u i j (by lia) hj (by lia)
theorem RD{st:a_}{i sa na nb pw pw2:Nat}{Q:Bool->a_->Prop}(h0:Ax prog w A s κ rk a₀)(hp:(ax st).Perm a₀)(hk:kindOf st=κ)(hf:eM st=none)
  (hi:(bP st)[i]?=some (sa,na,pw)) (hj:(bP st)[i + 1]?=some (sa + na,nb,pw2)) (na1:1<=na) (nb1:1<=nb) (hz:sa + na + nb<=a₀.size) (ua:Up rk (ax st) sa na) (ub:Up rk (ax st) (sa + na) nb)
  (h:∀st',(ax st').Perm a₀->kindOf st'=κ->eM st'=none->bP st'=((bP st).setIfInBounds i (sa,na + nb,pw)).eraseIdxIfInBounds (i + 1)->(∀q,q < sa∨sa + na + nb<=q->(ax st')[q]?=(ax st)[q]?)->Up rk (ax st') sa (na + nb)->Q true st') :
  wpS (ar prog w) A E s (mergeAt' i) Q st:=by
 rw[Rz];refine aI (gy ?_);dsimp only;rw[hi,hj];dsimp only;have aoM:∀(st1:a_) (Q':PUnit->a_->Prop),Q' ⟨⟩ st1->wpS (ar prog w) A E s (set st1:StateT a_ Sem PUnit) Q' st:=fun st1 Q' hq=>by unfold wpS;rw[StateT.run_set];exact az ⟨rfl,hq⟩
 refine aI (aoM _ _ ?_);have sz:(ax st).size=a₀.size:=hp.size_eq;have mem:∀x∈(ax st).toList,x∈a₀.toList:=fun x hx=>(qS.mp hp).mem_iff.mp hx;generalize afY:mx st (((bP st).setIfInBounds i (sa,na + nb,pw)).eraseIdxIfInBounds (i + 1))=st1;have k1:kindOf st1=κ:=by rw[<- afY];exact hk
 have f1:eM st1=none:=by rw[<- afY];exact hf
 have a1:ax st1=ax st:=by rw[<- afY]
 have p1:bP st1=((bP st).setIfInBounds i (sa,na + nb,pw)).eraseIdxIfInBounds (i + 1):=by rw[<- afY]
 obtain⟨y,hy⟩:=eZ (xs:=ax st) (i:=sa + na) (by lia);obtain⟨z,hz'⟩:=eZ (xs:=ax st) (i:=sa + na - 1) (by lia);generalize ax st=xs at *;refine aI (bY hy ?_);refine aI (jW h0 k1 (mem y (oM hy)) mem (by lia) (by lia) ua fun k kn kl kr=>?_);have kl':∀q,q < k->R rk xs (sa + q)<=rk y:=fun q hq=>by have:=kl q hq;unfold bp at this;simpa using this
 have kr':∀q,k<=q->q < na->rk y < R rk xs (sa + q):=fun q h1 h2=>by have:=kr q h1 h2;unfold bp at this;simpa using this
 have ub0:∀q,q < nb->rk y<=R rk xs (sa + na + q):=fun q hq=>by have:=ub 0 q (by lia) hq;rwa [lS,jg hy]at this
 have whole:(∀q,q < na->∀q',q' < nb->R rk xs (sa + q)<=R rk xs (sa + na + q'))->Up rk xs sa (na + nb):=fun hq i j hij hj=>by
  by_cases c:j < na
  ·exact ua i j hij c
  ·by_cases d:i < na
   ·have:=hq i d (j - na) (by lia);rwa [show sa + na + (j - na)=sa + j by lia]at this
   ·have:=ub (i - na) (j - na) (by lia) (by lia);rwa [show sa + na + (j - na)=sa + j by lia,show sa + na + (i - na)=sa + i by lia]at this
 dsimp only;refine cF (fun e=>ba ?_) fun e=>?_
 ·have e:=lM e;refine h st1 (by rw[a1];exact hp) k1 f1 p1 (fun _ _=>by rw[a1]) ?_;rw[a1];exact whole fun q hq q' hq'=>d_ (kl' q (by lia)) (ub0 q' hq')
 have e:=gW e;rw[show sa + k + (na - k) - 1=sa + na - 1 by lia];refine aI (bY hz' ?_);refine aI (jW h0 k1 (mem z (oM hz')) mem (by lia) (by lia) ub fun n nn nl nr=>?_);have nl':∀q,q < n->R rk xs (sa + na + q) < rk z:=fun q hq=>by have:=nl q hq;unfold bp at this;simpa using this
 have nr':∀q,n<=q->q < nb->rk z<=R rk xs (sa + na + q):=fun q h1 h2=>by have:=nr q h1 h2;unfold bp at this;simpa using this
 have uaz:∀q,q < na->R rk xs (sa + q)<=rk z:=fun q hq=>by have:=ua q (na - 1) (by lia) (by lia);rwa [show sa + (na - 1)=sa + na - 1 by lia,jg hz']at this
 refine cF (fun e2=>ba ?_) fun e2=>?_
 ·have e2:=lM e2;refine h st1 (by rw[a1];exact hp) k1 f1 p1 (fun _ _=>by rw[a1]) ?_;rw[a1];exact whole fun q hq q' hq'=>d_ (uaz q hq) (nr' q' (by lia) hq')
 have e2:=gW e2;have hxl:xs.toList.length=a₀.size:=by rw[i0];exact sz
 obtain⟨P,hP⟩:∃P,P=xs.toList.take sa:=⟨_,rfl⟩
 obtain⟨A1,hA1⟩:∃P,P=(xs.toList.drop sa).take k:=⟨_,rfl⟩
 obtain⟨X,hX⟩:∃P,P=(xs.toList.drop (sa + k)).take (na - k):=⟨_,rfl⟩
 obtain⟨Y,hY⟩:∃P,P=(xs.toList.drop (sa + na)).take n:=⟨_,rfl⟩
 obtain⟨B2,hB2⟩:∃P,P=(xs.toList.drop (sa + na + n)).take (nb - n):=⟨_,rfl⟩
 obtain⟨S,hS⟩:∃P,P=xs.toList.drop (sa + na + nb):=⟨_,rfl⟩
 have lP:P.length=sa:=by rw[hP,km];lia
 have lA:A1.length=k:=by rw[hA1,km,q_];lia
 have lX:X.length=na - k:=by rw[hX,km,q_];lia
 have lY:Y.length=n:=by rw[hY,km,q_];lia
 have lB:B2.length=nb - n:=by rw[hB2,km,q_];lia
 have hl:xs.toList=P++(A1++(X++(Y++(B2++S)))):=by rw[hP,hA1,hX,hY,hB2,hS];have s5:=nC xs.toList (sa + na + n) (nb - n);rw[show sa + na + n + (nb - n)=sa + na + nb by lia]at s5;rw[<- s5,<- nC xs.toList (sa + na) n];have s3:=nC xs.toList (sa + k) (na - k);rw[show sa + k + (na - k)=sa + na by lia]at s3;rw[<- s3,<- nC xs.toList sa k,l4]
 have eX:(xs.extract (sa + k) (sa + na)).toList=X:=by rw[qw,hX];congr 1;lia
 have eY:(xs.extract (sa + na) (sa + na + n)).toList=Y:=by rw[qw,hY];congr 1;lia
 have aA:gM rk (A1++X):=by
  have:xs.toList=P++((A1++X)++(Y++(B2++S))):=by rw[hl];simp
  refine(Wu this).mp ?_;rw[lP,dC,lA,lX,show k + (na - k)=na by lia];exact ua
 have aB:gM rk (Y++B2):=by
  have:xs.toList=(P++(A1++X))++((Y++B2)++S):=by rw[hl];simp
  have u:=Wu (rk:=rk) this;rw[dC,dC,lP,lA,lX,dC,lY,lB,show sa + (k + (na - k))=sa + na by lia,show n + (nb - n)=nb by lia]at u;exact u.mp ub
 obtain⟨sA,sX,sAX⟩:=gp.mp aA;obtain⟨sY,sB,sYB⟩:=gp.mp aB;have amc:∀v∈A1,rk v<=rk y:=fun v hv=>by rw[hA1]at hv;obtain⟨j,hj,ej⟩:=ni hv;have:=kl' j hj;rwa [jg ej]at this
 have aoO:∀v∈X,rk v<=rk z:=fun v hv=>by rw[hX]at hv;obtain⟨j,hj,ej⟩:=ni hv;have:=uaz (k + j) (by lia);rwa [<- oo,jg ej]at this
 have afZ:∀v∈Y,rk y<=rk v/\rk v < rk z:=fun v hv=>by rw[hY]at hv;obtain⟨j,hj,ej⟩:=ni hv;have q1:=ub0 j (by lia);have q2:=nl' j hj;rw[jg ej]at q1 q2;exact⟨q1,q2⟩
 have ajy:∀v∈B2,rk z<=rk v:=fun v hv=>by rw[hB2]at hv;obtain⟨j,hj,ej⟩:=ni hv;have:=nr' (n + j) (by lia) (by lia);rwa [<- oo,jg ej]at this
 have gX:∀q,q < na - k->(xs.extract (sa + k) (sa + na))[q]?=xs[sa + k + q]?:=fun q hq=>by rw[Array.getElem?_extract,if_pos (by lia)]
 have gY:∀q,q < n->(xs.extract (sa + na) (sa + na + n))[q]?=xs[sa + na + q]?:=fun q hq=>by rw[Array.getElem?_extract,if_pos (by lia)]
 have szX:(xs.extract (sa + k) (sa + na)).size=na - k:=by rw[qV];lia
 have szY:(xs.extract (sa + na) (sa + na + n)).size=n:=by rw[qV];lia
 have m:Rv prog w A s κ rk a₀ (xs.extract (sa + k) (sa + na)) (xs.extract (sa + na) (sa + na + n)):=by
  refine⟨h0,by rw[eX];exact sX,by rw[eY];exact sY,fun v hv=>mem v ?_,fun v hv=>mem v ?_,by lia,by lia,?_,fun v hv=>?_⟩
  ·rw[eX]at hv;rw[hl];simp[hv]
  ·rw[eY]at hv;rw[hl];simp[hv]
  ·rw[kW (gX 0 (by lia)),kW (gY 0 (by lia)),lS,lS,jg hy];exact kr' k (bj _) (by lia)
  ·rw[szX,kW (gX (na - k - 1) (by lia)),show sa + k + (na - k - 1)=sa + na - 1 by lia,jg hz'];rw[eY]at hv;exact fR (afZ v hv).2
 have gD:∀(mm:Array aw) (st2:a_),cX st1 st2->GX rk (xs.extract (sa + k) (sa + na)) (xs.extract (sa + na) (sa + na + n)) mm->wpS (ar prog w) A E s (do
   modify fun s=>setArr s (mm.toList.zipIdx.foldl (fun a (p,j)=>a.setIfInBounds (sa + k + j) p) (ax s))
   let s <- get
   pure (eM s).isNone) Q st2:=fun mm st2 hS2 ⟨hr,hu⟩=>by
  rw[eX,eY]at hr;have lm:mm.toList.length=(X++Y).length:=hr.length_eq;have put:=RB (base:=sa + k) mm.toList 0 (P++A1) (X++Y) (B2++S) xs (by rw[hl];simp) (by rw[dC,lP,lA];lia) lm;refine aI (iN (aI (gy ?_)));have e3:ax st2=xs:=hS2.1.trans a1;have key:∀ys:Array aw,ys.toList=P++(A1++(mm.toList++(B2++S)))->∀st',ax st'=ys->kindOf st'=κ->eM st'=none->bP st'=bP st1->Q true st':=by
   intro ys hys st' e4 e5 e6 e7;refine h st' ?_ e5 e6 (e7.trans p1) ?_ ?_
   ·rw[e4];refine Array.Perm.trans (qS.mpr ?_) hp;rw[hys,hl];refine n5 _ (n5 _ ?_);rw[<- gN X Y];exact u4 _ hr
   ·intro q hq;rw[e4,<- fF,<- fF,hys,hl];rw[dC,lX,lY]at lm;rcases hq with hq|hq
    ·rw[fy (by lia),fy (by lia)]
    ·have e8:P++(A1++(mm.toList++(B2++S)))=(P++(A1++(mm.toList++B2)))++S:=by simp
     have e9:P++(A1++(X++(Y++(B2++S))))=(P++(A1++(X++(Y++B2))))++S:=by simp
     have l1:(P++(A1++(mm.toList++B2))).length=sa + na + nb:=by simp only[dC];lia
     have l2:(P++(A1++(X++(Y++B2)))).length=sa + na + nb:=by simp only[dC];lia
     rw[e8,e9,gi (by lia),gi (by lia),l1,l2]
   ·rw[e4];have e8:ys.toList=P++((A1++(mm.toList++B2))++S):=by rw[hys];simp
    have u:=Wu (rk:=rk) e8;have l1:(A1++(mm.toList++B2)).length=na + nb:=by simp only[dC]at lm ⊢;lia
    rw[lP,l1]at u;refine u.mpr (gp.mpr ⟨sA,gp.mpr ⟨hu,sB,fun v hv t ht=>?_⟩,fun v hv t ht=>?_⟩)
    ·rcases dq.mp (hr.mem_iff.mp hv) with hv|hv
     ·exact d_ (aoO v hv) (ajy t ht)
     ·exact d_ (fR (afZ v hv).2) (ajy t ht)
    ·rcases dq.mp ht with ht|ht
     ·rcases dq.mp (hr.mem_iff.mp ht) with ht|ht
      ·exact sAX v hv t ht
      ·exact d_ (amc v hv) (afZ t ht).1
     ·have q1:=amc v hv;have q2:=(afZ y (by
       have:=di.mp (show Y[0]?=some y by rw[hY,k6 (by lia),om,lS];simpa using hy);obtain⟨q,rfl⟩:=this;exact eB q)).2
      have q3:=ajy t ht;lia
  rw[<- e3]at put;have:=key _ (by rw[put];simp) (setArr st2 (mm.toList.zipIdx.foldl (fun a (p,j)=>a.setIfInBounds (sa + k + j) p) (ax st2))) rfl (hS2.2.1.trans k1) (hS2.2.2.2.trans f1) hS2.2.2.1;have e10:(eM (setArr st2 (mm.toList.zipIdx.foldl (fun a (p,j)=>a.setIfInBounds (sa + k + j) p) (ax st2)))).isNone=true:=by show(eM st2).isNone=true;rw[hS2.2.2.2.trans f1];rfl
  rw[e10];exact ba this
 exact cF (fun _=>aI (Rw m k1 gD)) fun _=>aI (Ry m k1 gD)
end
def Rn(rk:aw->Int)(xs:Array aw):Nat->List (Nat×Nat×Nat)->Nat->Prop
 |a,[],e=>a=e
 |a,t::l,e=>t.1=a/\1<=t.2.1/\Up rk xs a t.2.1/\Rn rk xs (a + t.2.1) l e
section
variable{rk:aw->Int}{xs ys:Array aw}
theorem Rn.le:∀{l:List (Nat×Nat×Nat)}{a e:Nat},Rn rk xs a l e->a + l.length<=e
 | [],a,e,h=>by simp only[Rn]at h;simp;lia
 |t::l,a,e,h=>by obtain⟨h1,h2,h3,h4⟩:=h;have:=Rn.le h4;simp only[cv];lia
theorem Rn.app:∀{l l':List (Nat×Nat×Nat)}{a e:Nat},Rn rk xs a (l++l') e↔∃m,Rn rk xs a l m/\Rn rk xs m l' e
 | [],l',a,e=>by
  constructor
  ·intro h;exact⟨a,rfl,h⟩
  ·rintro⟨m,rfl,h⟩;exact h
 |t::l,l',a,e=>by
  constructor
  ·rintro⟨h1,h2,h3,h4⟩;obtain⟨m,g1,g2⟩:=Rn.app.mp h4;exact⟨m,⟨h1,h2,h3,g1⟩,g2⟩
  ·rintro⟨m,⟨h1,h2,h3,h4⟩,g⟩;exact⟨h1,h2,h3,Rn.app.mpr ⟨m,h4,g⟩⟩
theorem Up.congr{a n:Nat}(h:Up rk xs a n)(hc:∀q,a<=q->q < a + n->ys[q]?=xs[q]?):Up rk ys a n:=fun i j hij hj=>by rw[kW (hc (a + i) (by lia) (by lia)),kW (hc (a + j) (by lia) (by lia))];exact h i j hij hj
theorem Rn.congr:∀{l:List (Nat×Nat×Nat)}{a e:Nat},Rn rk xs a l e->(∀q,a<=q->q < e->ys[q]?=xs[q]?)->Rn rk ys a l e
 | [],a,e,h,_=>h
 |t::l,a,e,⟨h1,h2,h3,h4⟩,hc=>by have:=h4.le;exact⟨h1,h2,h3.congr fun q q1 q2=>hc q q1 (by lia),h4.congr fun q q1 q2=>hc q (by lia) q2⟩
theorem Rn.pow:∀{l l':List (Nat×Nat×Nat)}{a e:Nat},Rn rk xs a l e->l'.map (fun t=>(t.1,t.2.1))=l.map (fun t=>(t.1,t.2.1))->Rn rk xs a l' e
 | [],l',a,e,h,hm=>by
  obtain rfl:l'=[]:=by simpa using hm
  exact h
 |t::l,[],a,e,h,hm=>by cases hm
 |t::l,t'::l',a,e,⟨h1,h2,h3,h4⟩,hm=>by simp only[b_,List.cons.injEq,sQ]at hm;obtain⟨⟨m1,m2⟩,m3⟩:=hm;exact⟨m1.trans h1,by rw[m2];exact h2,by rw[m2];exact h3,by rw[m2];exact h4.pow m3⟩
theorem Em(f:Nat×Nat×Nat->Nat×Nat×Nat)(hf:∀t,((f t).1,(f t).2.1)=(t.1,t.2.1)):∀(l:List (Nat×Nat×Nat)) (i:Nat),(l.modify i f).map (fun t=>(t.1,t.2.1))=l.map (fun t=>(t.1,t.2.1))
 | [],i=>by simp
 |t::l,0=>by simp only[List.modify_zero_cons,b_,hf]
 |t::l,i + 1=>by simp only[List.modify_succ_cons,b_,Em f hf l i]
theorem ajz{α:Type}(l:List α)(i:Nat)(h:i + 1 < l.length):l=l.take i++(l[i]::l[i + 1]::l.drop (i + 2)):=by
 conv=>lhs;rw[<- l4 i l,ip (by lia),ip (by lia)]
theorem aoP{α:Type}(P:List α)(t u v:α)(S:List α)(i:Nat)(hP:P.length=i):((P++(t::u::S)).set i v).eraseIdx (i + 1)=P++(v::S):=by
 subst hP
 induction P with
 |nil=>rfl
 |cons p P ih =>
  simp only[u5,cv,iP,qi,ih]
end
section
variable{prog:aE}{w:ay}{A:a8}{E:aa->ae->Prop}{s:ae}{a₀:Array aw}{κ:eL}{rk:aw->Int}
structure Sr (κ:eL)(rk:aw->Int)(a₀:Array aw)(lo:Nat)(st:a_):Prop where
 perm:(ax st).Perm a₀
 kind:kindOf st=κ
 failed:eM st=none
 runs:Rn rk (ax st) 0 (bP st).toList lo
theorem vp{st:a_}{i e:Nat}{Q:Bool->a_->Prop}(h0:Ax prog w A s κ rk a₀)(h:Sr κ rk a₀ e st)(he:e<=a₀.size)(hi:i + 1 < (bP st).size)
  (hq:∀st',Sr κ rk a₀ e st'->(bP st').size + 1=(bP st).size->(∀q,e<=q->(ax st')[q]?=(ax st)[q]?)->Q true st'):wpS (ar prog w) A E s (mergeAt' i) Q st:=by
 have hr:=h.runs;have sp:=ajz (bP st).toList i (by simpa using hi);generalize hpre:(bP st).toList.take i=pre at sp;generalize (bP st).toList.drop (i + 2)=post at sp;have lp:pre.length=i:=by rw[<- hpre,km];simp;lia
 rw[sp]at hr;obtain⟨m,r1,h1,h2,h3,h4,h5,h6,h7⟩:=Rn.app.mp hr;simp only[Array.getElem_toList]at h1 h2 h3 h4 h5 h6 h7 sp;have e1:(bP st)[i]?=some (m,(bP st)[i].2.1,(bP st)[i].2.2):=by rw[getElem?_pos _ i (by lia)];exact congrArg some (Prod.ext h1 rfl)
 have e2:(bP st)[i + 1]?=some (m + (bP st)[i].2.1,(bP st)[i + 1].2.1,(bP st)[i + 1].2.2):=by rw[getElem?_pos _ (i + 1) (by lia)];exact congrArg some (Prod.ext h4 rfl)
 have l7:=h7.le;refine RD h0 h.perm h.kind h.failed e1 e2 h2 h5 (by lia) h3 h6 fun st' p1 p2 p3 p4 p5 p6=>?_;have e3:(bP st').toList=pre++((m,(bP st)[i].2.1 + (bP st)[i + 1].2.1,(bP st)[i].2.2)::post):=by rw[p4,Array.toList_eraseIdxIfInBounds,Array.toList_setIfInBounds,sp];exact aoP _ _ _ _ _ _ lp
 refine hq st' ⟨p1,p2,p3,?_⟩ ?_ fun q hq=>p5 q (.inr (by lia))
 ·rw[e3];have l1:=r1.le;refine Rn.app.mpr ⟨m,r1.congr fun q _ q2=>p5 q (.inl q2),rfl,by show 1<=_ + _;lia,p6,?_⟩;show Rn rk (ax st') (m + (_ + _)) post e;rw[<- oo];exact h7.congr fun q q1 _=>p5 q (.inr q1)
 ·have q1:=congrArg eI e3;have q2:=congrArg eI sp;simp only[i0,dC,cv]at q1 q2;lia
theorem Sr.push{st:a_}{lo n:Nat}(h:Sr κ rk a₀ lo st)(hn:1<=n)(hu:Up rk (ax st) lo n):Sr κ rk a₀ (lo + n) (mx st ((bP st).push (lo,n,0))):=by refine⟨h.perm,h.kind,h.failed,?_⟩;show Rn rk (ax st) 0 ((bP st).push (lo,n,0)).toList (lo + n);rw[pT];exact Rn.app.mpr ⟨lo,h.runs,rfl,hn,hu,rfl⟩
theorem Sr.ahL{st:a_}{lo:Nat}(h:Sr κ rk a₀ lo st)(f:Nat×Nat×Nat->Nat×Nat×Nat)(hf:∀t,((f t).1,(f t).2.1)=(t.1,t.2.1)){i:Nat}:Sr κ rk a₀ lo (mx st ((bP st).modify i f)):=by refine⟨h.perm,h.kind,h.failed,h.runs.pow ?_⟩;show((bP st).modify _ _).toList.map _=_;rw[Array.toList_modify];exact Em f hf _ _
theorem En:∀(f n r:Nat),1<=n + r->1<=ot f n r
 | 0,n,r,h=>h
 |f + 1,n,r,h=>by
  rw[minRun'_succ];split
  ·exact h
  ·exact En f (n / 2) (max r (n % 2)) (by lia)
theorem Mj{st:a_}{Q:Unit->a_->Prop}(h0:Ax prog w A s κ rk a₀)(hp:ax st=a₀)(hk:kindOf st=κ)(hf:eM st=none)(hpd:bP st=#[])(h2:2<=a₀.size)
  (hq:∀st',(ax st').Perm a₀->eM st'=none->Up rk (ax st') 0 a₀.size->Q () st'):wpS (ar prog w) A E s sortRuns' Q st:=by
 rw[sortRuns'_eq];refine aI (gy ?_);dsimp only;rw[hp];have mr:1<=ot a₀.size a₀.size 0:=En _ _ _ (by lia);refine aI (d8 (eD (I:=fun x c st'=>∃lo,c=(none,lo)/\x<=lo/\lo<=a₀.size/\Sr κ rk a₀ lo st')
  (Q:=fun c st'=>c=(none,a₀.size)/\Sr κ rk a₀ a₀.size st') ?step ?gD ⟨0,rfl,bj _,by lia,by rw[hp],hk,hf,by rw[hpd];rfl⟩) ?post)
 case gD =>
  rintro c st' ⟨lo,rfl,h1,h2,hS⟩;obtain rfl:lo=a₀.size:=by lia
  exact⟨rfl,hS⟩
 case post =>
  rintro c st' ⟨rfl,hS⟩;dsimp only;refine aI (d8 (eD (I:=fun x c st''=>c=(none,())/\Sr κ rk a₀ a₀.size st''/\((bP st'').size<=1∨(bP st'').size + x<=a₀.size))
   (Q:=fun c st''=>c=(none,())/\Sr κ rk a₀ a₀.size st''/\(bP st'').size<=1) ?s2 ?f2 ⟨rfl,hS,.inr (by have:=hS.runs.le;simpa using this)⟩) ?p2)
  case f2 =>
   rintro c st'' ⟨rfl,hS,hl⟩;exact⟨rfl,hS,by lia⟩
  case s2 =>
   rintro x c st'' _ hx ⟨rfl,hS,hl⟩;refine aI (gy ?_);refine cF (fun e=>ba ⟨rfl,hS,e⟩) fun e=>?_;have ite_le:∀(c:Prop) [Decidable c],(if c then (bP st'').size - 2 - 1 else (bP st'').size - 2) + 1 < (bP st'').size:=fun c _=>by split <;> lia
   refine aI (vp h0 hS (bj _) ?_ fun st2 hS2 hz _=>?_)
   ·exact ite_le _
   ·simp only[eC,bq,if_false];exact ba ⟨rfl,hS2,by lia⟩
  case p2 =>
   rintro c st'' ⟨rfl,hS,hl⟩;dsimp only;refine ba (hq st'' hS.perm hS.failed ?_);have hr:=hS.runs;cases e:(bP st'').toList with
   |nil=>rw[e]at hr;simp only[Rn]at hr;lia
   |cons t l =>
    have:l=[]:=by have:=congrArg eI e;simp only[i0,cv]at this;exact n4.mp (by lia)
    subst this;rw[e]at hr;obtain⟨_,_,r3,r4⟩:=hr;simp only[Rn]at r4;rw[show t.2.1=a₀.size by lia]at r3;exact r3
 case step =>
  rintro x c st' _ hx ⟨lo,rfl,h1,h3,hS⟩;dsimp only;refine cF (fun e=>?_) fun e=>?_
  ·obtain rfl:lo=a₀.size:=by lia
   exact ba ⟨rfl,hS⟩
  ·have hB:SB κ a₀ (ax st') (bP st') lo st':=⟨hS.perm,hS.kind,hS.failed,rfl,fun _ _=>rfl⟩
   have back:∀st2,SB κ a₀ (ax st') (bP st') lo st2->Sr κ rk a₀ lo st2:=fun st2 hB2=>⟨hB2.perm,hB2.kind,hB2.failed,by
    rw[hB2.pend];exact hS.runs.congr fun q _ q2=>hB2.keep q q2⟩
   refine aI (aaH h0 (show lo + (a₀.size - lo)<=a₀.size by lia) (by lia) hB fun m st2 hB2 m1 m2 um=>?_);dsimp only;refine cF (fun c=>?_) fun c=>?_
   ·refine aI (kG (g_ ⟨rfl,?_⟩));refine aI (afU h0 (show lo + min (a₀.size - lo) (ot a₀.size a₀.size 0)<=a₀.size by lia) (by lia) hB2 um fun st3 hB3 u3=>?_);simp only[eC,bq,if_false];have hS0:=back st3 hB3;have RG:∀Ju,Sr κ rk a₀ lo Ju->(∀q,lo<=q->(ax Ju)[q]?=(ax st3)[q]?)->Sr κ rk a₀ (lo + min (a₀.size - lo) (ot a₀.size a₀.size 0)) (mx Ju ((bP Ju).push (lo,min (a₀.size - lo) (ot a₀.size a₀.size 0),0))):=fun Ju h4 hk4=>h4.push (by lia) (u3.congr fun q q1 _=>hk4 q q1);refine aI (gy ?_);cases cc:(bP st3).back? with
    |none =>
     dsimp only;exact aI (iN (ba ⟨_,rfl,by lia,by lia,RG _ hS0 fun _ _=>rfl⟩))
    |some t =>
     obtain⟨s1,n1,p1⟩:=t;dsimp only;refine aI (d8 (eD (I:=fun _ c st'=>c=(none,())/\Sr κ rk a₀ lo st'/\∀q,lo<=q->(ax st')[q]?=(ax st3)[q]?)
      (Q:=fun c st'=>c=(none,())/\Sr κ rk a₀ lo st'/\∀q,lo<=q->(ax st')[q]?=(ax st3)[q]?) ?adg (fun _ _ hh=>hh) ⟨rfl,hS0,fun _ _=>rfl⟩) ?adh)
     case adh =>
      rintro c st' ⟨rfl,hS,hk⟩;dsimp only;refine aI (iN (aI (iN (ba ⟨_,rfl,by lia,by lia,RG _ (hS.ahL _ ?_) hk⟩))));exact fun t=>rfl
     case adg =>
      rintro x c st' _ hx ⟨rfl,hS,hk⟩;refine aI (gy ?_);by_cases c:(bP st').size > 1
      ·rw[if_pos c,getElem?_pos (bP st') ((bP st').size - 2) (by lia)];dsimp only;refine cF (fun _=>ba ⟨rfl,hS,hk⟩) fun _=>?_;refine aI (vp h0 hS (by lia) (by lia) fun st2 hS2 _ hk2=>?_);simp only[eC,bq,if_false];exact ba ⟨rfl,hS2,fun q hq=>(hk2 q hq).trans (hk q hq)⟩
      ·rw[if_neg c];exact ba ⟨rfl,hS,hk⟩
   ·have hS0:=back st2 hB2;have RG:∀Ju,Sr κ rk a₀ lo Ju->(∀q,lo<=q->(ax Ju)[q]?=(ax st2)[q]?)->Sr κ rk a₀ (lo + m) (mx Ju ((bP Ju).push (lo,m,0))):=fun Ju h4 hk4=>h4.push (by lia) (um.congr fun q q1 _=>hk4 q q1);refine aI (gy ?_);cases cc:(bP st2).back? with
    |none =>
     dsimp only;exact aI (iN (ba ⟨_,rfl,by lia,by lia,RG _ hS0 fun _ _=>rfl⟩))
    |some t =>
     obtain⟨s1,n1,p1⟩:=t;dsimp only;refine aI (d8 (eD (I:=fun _ c st'=>c=(none,())/\Sr κ rk a₀ lo st'/\∀q,lo<=q->(ax st')[q]?=(ax st2)[q]?)
      (Q:=fun c st'=>c=(none,())/\Sr κ rk a₀ lo st'/\∀q,lo<=q->(ax st')[q]?=(ax st2)[q]?) ?adg (fun _ _ hh=>hh) ⟨rfl,hS0,fun _ _=>rfl⟩) ?adh)
     case adh =>
      rintro c st' ⟨rfl,hS,hk⟩;dsimp only;refine aI (iN (aI (iN (ba ⟨_,rfl,by lia,by lia,RG _ (hS.ahL _ ?_) hk⟩))));exact fun t=>rfl
     case adg =>
      rintro x c st' _ hx ⟨rfl,hS,hk⟩;refine aI (gy ?_);by_cases c:(bP st').size > 1
      ·rw[if_pos c,getElem?_pos (bP st') ((bP st').size - 2) (by lia)];dsimp only;refine cF (fun _=>ba ⟨rfl,hS,hk⟩) fun _=>?_;refine aI (vp h0 hS (by lia) (by lia) fun st2 hS2 _ hk2=>?_);simp only[eC,bq,if_false];exact ba ⟨rfl,hS2,fun q hq=>(hk2 q hq).trans (hk q hq)⟩
      ·rw[if_neg c];exact ba ⟨rfl,hS,hk⟩
end
end Sb
namespace Sb
open PySem PySem.W PyProof.Rows So
def rkI(lt:Nat->Nat->Bool)(n i:Nat):Int:=((bu n).filter fun j=>lt j i).length
theorem Ml{α:Type}{p q:α->Bool}:∀{l:List α},(∀x∈l,p x=true->q x=true)->(l.filter p).length<=(l.filter q).length
 | [],_=>bj _
 |x::l,h=>by
  have ih:=Ml (l:=l) fun y hy=>h y (.tail _ hy);have hx:=h x (.head _);rw[my,my];cases c:p x with
  |false =>
   simp only[bq,if_false];split
   ·simp only[cv];lia
   ·exact ih
  |true =>
   rw[hx c];simp only[if_true,cv];lia
theorem adi{α:Type}{p q:α->Bool}:∀{l:List α}{z:α},(∀x∈l,p x=true->q x=true)->z∈l->p z=false->q z=true->(l.filter p).length < (l.filter q).length
 | [],_,_,hz,_,_=>by cases hz
 |x::l,z,h,hz,pz,qz=>by
  have ih0:=Ml (l:=l) fun y hy=>h y (.tail _ hy);have hx:=h x (.head _);rw[my,my];rcases bz.mp hz with rfl|hz
  ·rw[pz,qz];simp only[bq,if_false,if_true,cv];lia
  ·have ih:=adi (l:=l) (fun y hy=>h y (.tail _ hy)) hz pz qz;cases c:p x with
   |false =>
    simp only[bq,if_false];split
    ·simp only[cv];lia
    ·exact ih
   |true =>
    rw[hx c];simp only[if_true,cv];lia
theorem ahN{lt:Nat->Nat->Bool}(O:Ord lt){n i j:Nat}(hi:i < n):decide (rkI lt n i < rkI lt n j)=lt i j:=by
 unfold rkI;cases c:lt i j with
 |true =>
  refine decide_eq_true (Int.ofNat_lt.mpr (adi (z:=i) (fun k _ hk=>?_) (ef.mpr hi) (irr O i) c));cases d:lt k j with
  |true=>rfl
  |false =>
   have h1:lt i k=false:=O.as k i hk;have h2:=O.tr j k i d h1;rw[c]at h2;cases h2
 |false =>
  refine decide_eq_false fun q=>?_;have q:=Int.ofNat_lt.mp q;have:=Ml (p:=fun k=>lt k j) (q:=fun k=>lt k i) (l:=bu n) fun k _ hk=>by
   cases d:lt k i with
   |true=>rfl
   |false =>
    have h2:=O.tr j i k c d;rw[hk]at h2;cases h2
  lia
theorem adk{α:Type}{d:α}{l1 l2:List α}(h:l1.Perm l2):∃q:List Nat,q.Perm (bu l2.length)/\l1=q.map fun i=>l2.getD i d:=by
 induction h with
 |nil=>exact⟨[],.refl _,rfl⟩
 |cons x h ih =>
  obtain⟨q,hq,e⟩:=ih;refine⟨0::q.map (· + 1),?_,?_⟩
  ·rw[cv,lj];exact(hq.map _).cons 0
  ·rw[b_,eS,e];simp[o5]
 |swap x y l =>
  refine⟨1::0::(bu l.length).map (· + 2),?_,?_⟩
  ·rw[cv,cv,lj,lj,b_,eS];exact g7.swap 0 1 _
  ·rw[b_,b_,eS];have:l=(bu l.length).map fun i=>l.getD i d:=by
    apply kD
    ·simp
    ·intro i h1 h2;simp[h1]
   simp only[o5];rw[List.getD_cons_succ,List.getD_cons_zero,List.getD_cons_zero];congr 2
 |trans h1 h2 ih1 ih2 =>
  obtain⟨q1,p1,e1⟩:=ih1;obtain⟨q2,p2,e2⟩:=ih2;have l2:=h2.length_eq;have lq:=p2.length_eq;rw[hW]at lq;refine⟨q1.map fun i=>q2.getD i 0,?_,?_⟩
  ·refine(p1.map _).trans (g7.trans (oa ?_) p2);apply kD
   ·simp;lia
   ·intro i h1 h2;simp only[b8,hW]at h1;simp only[List.getElem_map,List.getElem_range,eK];rw[d4 h2];rfl
  ·rw[e1,eS];refine nS fun i hi=>?_;have hi':i < q2.length:=by have:=ef.mp (p1.mem_iff.mp hi);lia
   show nX _ i d=nX _ (nX q2 i 0) d;rw[e2];simp only[eK,cf,d4 hi',nK,nN]
section
variable{prog:aE}{w:ay}{A:a8}{E:aa->ae->Prop}{s:ae}
theorem adl{lt:Nat->Nat->Bool}{κ:eL}{vs:List aa}{Q:a_->ae->Prop}(O:Ord lt)(h2:2<=vs.length)(ha:alY prog w A κ vs lt s)
  (hd:∀i i',i < vs.length->i' < vs.length->vs.getD i aa.none=vs.getD i' aa.none->∀j,lt j i=lt j i')
  (h:∀st,Wq lt vs st->Q st s):ai (ar prog w) A ((sortRuns').run (q9 κ (vs.toArray.zip vs.toArray) #[] 7 none)) (fun r s'=>Q r.2 s') E s:=by
 classical
 let it:Nat->aw:=fun i=>(vs.getD i aa.none,vs.getD i aa.none)
 let rk:aw->Int:=fun x=>if h:∃i,i < vs.length/\it i=x then rkI lt vs.length (u6 h) else 0
 have rki:∀i,i < vs.length->rk (it i)=rkI lt vs.length i:=fun i hi=>by
  have ex:∃j,j < vs.length/\it j=it i:=⟨i,hi,rfl⟩
  show(if h:∃j,j < vs.length/\it j=it i then rkI lt vs.length (u6 h) else 0)=_;rw[dif_pos ex];obtain⟨c1,c2⟩:=Classical.choose_spec ex;unfold rkI;have:=hd _ i c1 hi (congrArg Prod.fst c2);rw[show(fun j=>lt j (u6 ex))=fun j=>lt j i from funext this]
 have hz:(vs.toArray.zip vs.toArray).toList=(bu vs.length).map it:=by
  apply kD
  ·simp
  ·intro i h1 h2;simp at h1;simp[it,h1]
 have hsz:(vs.toArray.zip vs.toArray).size=vs.length:=by simp
 have hA:Ax prog w A s κ rk (vs.toArray.zip vs.toArray):=by intro x y C E' hx hy hC;rw[hz]at hx hy;obtain⟨i,hi,rfl⟩:=c8.mp hx;obtain⟨j,hj,rfl⟩:=c8.mp hy;have hi:=ef.mp hi;have hj:=ef.mp hj;rw[rki i hi,rki j hj,ahN O hi]at hC;exact ha i j C E' hi hj hC
 have main:=Mj (prog:=prog) (w:=w) (A:=A) (E:=E) (s:=s) (st:=q9 κ (vs.toArray.zip vs.toArray) #[] 7 none) (Q:=fun _ st=>Wq lt vs st) hA rfl rfl rfl rfl (by rw[hsz];exact h2) fun st p1 p2 p3=>?_
 ·exact dQ main (fun r s' ⟨e,hs⟩=>by subst e;exact h _ hs) fun _ _ e=>e
 ·obtain⟨q,hq,e⟩:=adk (d:=it 0) (qS.mp p1);have ln:(vs.toArray.zip vs.toArray).toList.length=vs.length:=by simp
  rw[ln]at hq;have lq:=hq.length_eq;rw[hW]at lq;have qlt:∀i∈q,i < vs.length:=fun i hi=>ef.mp (hq.mem_iff.mp hi);have e':(ax st).toList=q.map it:=by rw[e];refine nS fun i hi=>?_;rw[hz,eK,cf,List.getElem?_range (qlt i hi)];rfl
  refine⟨q.toArray,⟨by simp[lq],fun i=>?_,by simpa using hq⟩,fun i j hij hj=>?_,?_,p2⟩
  ·rw[j4];by_cases c:i < q.length
   ·have:q.toArray[i]?=some q[i]:=by simp[c]
    rw[this];exact qlt _ (eB c)
   ·have:q.toArray[i]?=none:=by simp;lia
    rw[this];show 0 < vs.length;lia
  ·have hi':i < q.length:=by lia
   have hj':j < q.length:=by lia
   have g:∀k (hk:k < q.length),R rk (ax st) k=rkI lt vs.length q[k]:=fun k hk=>by rw[<- rki _ (qlt _ (eB hk))];refine jg ?_;rw[<- fF,e',cf,d4 hk];rfl
   have u:=p3 i j (by lia) (by rw[hsz];exact hj);rw[iO,iO,g i hi',g j hj']at u;have e1:q.toArray.getD i 0=q[i]:=by simp[j4,hi']
   have e2:q.toArray.getD j 0=q[j]:=by simp[j4,hj']
   rw[e1,e2,<- ahN O (qlt _ (eB hj'))];exact decide_eq_false (by lia)
  ·apply pS.mp;rw[Array.toList_map,e',eS];rfl
end
end Sb
namespace So
open PySem PySem.W PyProof.Rows PySem.Calls
section
variable{prog:aE}{w:ay}{A:a8}{E:aa->ae->Prop}{s:ae}
theorem JG:∀{ks js:List Int}{xs:List aa},ItemsAre (cb prog w) ks xs->ItemsAre (cb prog w) js xs->ks=js
 |_,_,_,.nil,.nil=>rfl
 |_,_,_,.cons h1 h2,.cons h3 h4=>by obtain⟨t,e1⟩:=kP h1;obtain⟨u,e2⟩:=kP h3;rw[e1]at e2;cases e2;rw[JG h2 h4]
theorem KeysAre.det{h:Heap}{vs:List aa}{bf:List (List Int)}(k:KeysAre prog w h vs bf):∀i i',i < vs.length->i' < vs.length->vs.getD i aa.none=vs.getD i' aa.none->∀j,yc (bf.getD j []) (bf.getD i [])=yc (bf.getD j []) (bf.getD i' []):=by intro i i' hi hi' he j;obtain⟨b,e1,o,its,n,q1,q2,q3,q4⟩:=k.2 i vs[i] (d4 hi);obtain⟨b',e2,o',its',n',r1,r2,r3,r4⟩:=k.2 i' vs[i'] (d4 hi');rw[eK,eK,d4 hi,d4 hi',nN,nN,e1,e2]at he;cases he;rw[q1]at r1;cases r1;rw[q3]at r3;cases r3;rw[JG q4 r4]
theorem Eo{a:ab}{vs:List aa}{bf:List (List Int)}{n:Nat}{P:n_->ae->Prop}(ho:s.heap.get? a=some (d9 "list" vs.toArray n))
  (hk:KeysAre prog w s.heap vs bf) (hne:∀ks∈bf,ks≠[]) (h64:vs.length < 1000)
  (h:∀(p:Array Nat),Rm bf p->P (.done (.ret .none)) { s with heap:=sortedHeap s.heap a vs (ka (p.toList.map fun i=>vs.getD i aa.none)) }) :
  ai (ar prog w) A (Builtin.«list.sort» ⟨[.ref a],[]⟩) P E s:=by
 rw[list_sort_plain];have ha:a < s.heap.objs.size:=bg ho;refine af (listItems_at ho rfl ?_);refine af (u7 ho rfl ?_ (by rw[cw,dA];lia) (d7 _));obtain⟨e1,ho1⟩:∃e1,(s.heap.update a (cE fun _=>#[])).get? a=some (d9 "list" #[] e1):=⟨_,u_ ho (fun _=>#[])⟩
 refine af (va ho1 rfl ?_);refine af (wpAny_newTuple ?_ (by show vs.length<=_;rw[dA];lia));refine af (wpAny_newList ?_ (d7 _));refine ez ?_;have ho6:(((s.heap.update a (cE fun _=>#[])).push (d9 "tuple" vs.toArray 0)).push (d9 "list" #[] 0)).get? a=some (d9 "list" #[] e1):=by rw[Heap.get?_push_ne _ _ _ (by rw[size_push',rf];exact bS (jS ha)),Heap.get?_push_ne _ _ _ (by rw[rf];exact bS ha)];exact ho1
 show ai (ar prog w) A _ P E { s with heap:=((s.heap.update a (cE fun _=>#[])).push (d9 "tuple" vs.toArray 0)).push (d9 "list" #[] 0) };dsimp only;have hsz:vs.toArray.size=vs.length:=by simp
 have hk6:KeysAre prog w (((s.heap.update a (cE fun _=>#[])).push (d9 "tuple" vs.toArray 0)).push (d9 "list" #[] 0)) vs bf:=hk.moved fun b o e c=>by
  refine b0 _ (b0 _ ?_);have:b≠a:=fun z=>by subst z;rw[ho]at e;cases e;exact absurd (aa.type.inj (show aa.type "list"=aa.type "tuple" from c)) (by decide)
  rw[kL _ _ _ _ this];exact e
 by_cases h2:vs.toArray.size < 2
 ·rw[if_pos h2,if_pos h2];refine af (az ?_);rw[StateT.run_pure];refine af (az ?_);dsimp only;refine af (va ho6 rfl ?_);refine af (u7 ho6 rfl ?_ (hsz2:=by rw[Array.size_map];show(pairsOf vs).size<=_;rw[pairsOf_size,dA];lia));simp only[bne_self_eq_false,bq,if_false];have hz:bf.length < 2:=by rw[hk.1,<- hsz];exact h2
  have hq:=h (ka (bu bf.length)) (Ro hz);have e:(ax (q9 general' (vs.toArray.zip vs.toArray) #[] 7 none)).map (·.2)=ka ((ka (bu bf.length)).toList.map fun i=>vs.getD i aa.none):=by rw[hk.1];show(vs.toArray.zip vs.toArray).map (·.2)=_;apply pS.mp;apply qE;intro i;simp;by_cases hi:i < vs.length <;> simp[hi]
  exact az (by rw[e];exact hq)
 ·rw[if_neg h2,if_neg h2];obtain⟨fs,ht,hl,hfi⟩:=hk6.tups hne;have h2':2<=vs.length:=by rw[<- hsz];lia
  refine af (kat_kind (T:=.type "int") ht (by lia) (fun v hv=>?_) rfl ?_)
  ·obtain⟨i,t,rfl⟩:=hfi v hv;exact Looks.now
  ·refine af (dQ (Sb.adl (E:=E) (Q:=fun st' s'=>s'={ s with heap:=((s.heap.update a (cE fun _=>#[])).push (d9 "tuple" vs.toArray 0)).push (d9 "list" #[] 0) }/\Wq (fun i j=>yc (bf.getD i []) (bf.getD j [])) vs st') (ajv bf) h2' hk6.asks hk6.det fun st' hs=>⟨rfl,hs⟩) ?_ fun _ _ e=>e);rintro⟨⟨⟩,st'⟩ s' ⟨rfl,p,a1,a2,a3,hf⟩;dsimp only at a3 hf ⊢;refine af (va ho6 rfl ?_);rw[a3];refine af (u7 ho6 rfl ?_ (hsz2:=by simp only[cw,b8,i0,a1.sz];rw[dA];lia));rw[hf];simp only[bne_self_eq_false,bq,if_false];rw[<- hk.1]at a1 a2;exact az (h p (acU a1 a2))
end
end So
namespace So
open PySem PySem.Spec PySem.W PyProof.Rows PySem.Calls PySem.SetTable Tb
section
variable{prog:aE}{w:ay}{A:a8}{E:aa->ae->Prop}{s:ae}{U:ab->List Int->Prop}
def aae(prog:aE)(w:ay)(U:ab->List Int->Prop)(o:Obj)(bf:List (List Int)):Prop :=
 ∃(L:List rD) (ep:Nat) (t:bE) (f:Int×aa->List Int),o=gC L ep t/\Good t L/\L.length * 5 < t.mask * 3/\t.mask < 8000/\(t.plain=true/\t.led=!Gz w)/\(∀e∈L,∃b,e.2.2=.ref b/\e.2.1=hK prog w (f e.2)/\U b (f e.2))/\(L.map fun e=>f e.2).Perm bf/\bf.Nodup
theorem eU.obj{h:Heap}{a:ab}{bf:List (List Int)}(x:eU prog w U h a bf):∃o,h.get? a=some o/\aae prog w U o bf:=by obtain⟨L,ep,t,f,ho,g,room,mb,pl,hf,hp,nd,uu⟩:=x;refine⟨_,ho,L,ep,t,f,rfl,g,room,mb,pl,fun e he=>?_,hp,nd⟩;obtain⟨b,h1,h2,h3⟩:=hf e he;exact⟨b,h1,h3,uu e he b h1⟩
theorem aae.at{h:Heap}{a:ab}{o:Obj}{bf:List (List Int)}(x:aae prog w U o bf)(ho:h.get? a=some o)(hU:∀b ks,U b ks->cK (cb prog w) h ks b):eU prog w U h a bf:=by
 obtain⟨L,ep,t,f,rfl,g,room,mb,pl,hf,hp,nd⟩:=x;refine⟨L,ep,t,f,ho,g,room,mb,pl,fun e he=>?_,hp,nd,fun e he b hb=>?_⟩
 ·obtain⟨b,h1,h2,h3⟩:=hf e he;exact⟨b,h1,hU _ _ h3,h2⟩
 ·obtain⟨b',h1,h2,h3⟩:=hf e he;rw[hb]at h1;cases h1;exact h3
def Zh(U:ab->List Int->Prop)(out:List aa)(bf:List (List Int)):Prop:=out.length=bf.length/\∀(i:Nat) v,out[i]?=some v->∃b,v=.ref b/\U b (bf.getD i [])
theorem GZ{l l':List (List Int)}(p:l.Perm l'):cu l=cu l':=Eb ((eE l).trans p) (pH l)
theorem vA{vs:List aa}{bf Mp:List (List Int)}{p:Array Nat}(ho:Zh U vs Mp)(hp:Rm Mp p)(pm:Mp.Perm bf):Zh U (p.toList.map fun i=>vs.getD i aa.none) (cu bf):=by
 rw[<- GZ pm,<- hp.2];refine⟨by simp,fun i v hv=>?_⟩;rw[cf]at hv;cases e:p.toList[i]? with
 |none=>rw[e]at hv;cases hv
 |some j =>
  rw[e]at hv;simp at hv;have hj:j < Mp.length:=by have:j∈bu Mp.length:=hp.1.mem_iff.mp (ko e);simpa using this
  have hj':j < vs.length:=by rw[ho.1];exact hj
  obtain⟨b,q1,q2⟩:=ho.2 j vs[j] (d4 hj');refine⟨b,?_,?_⟩
  ·rw[<- hv];simp[hj',q1]
  ·have:((p.toList.map fun i=>Mp.getD i []).getD i [])=Mp.getD j []:=by rw[eK,cf,e];rfl
   rw[this];exact q2
theorem yG{x:aa}{vs:List aa}{bf:List (List Int)}{Q:aa->ae->Prop}
  (aoT:∀(Q':List aa->ae->Prop) (E':aa->ae->Prop),(∀h' tk,(∀b o,s.heap.get? b=some o->h'.get? b=some o)->s.heap.objs.size<=h'.objs.size->Q' vs { s with heap:=h',toks:=tk })->ai (ar prog w) A.in1 (collect x) Q' E' s)
  (hk:KeysAre prog w s.heap vs bf) (hne:∀ks∈bf,ks≠[]) (h64:vs.length < 1000)
  (h:∀h' tk l n p,(∀b o,s.heap.get? b=some o->h'.get? b=some o)->s.heap.objs.size<=l->Rm bf p->h'.get? l=some (d9 "list" (ka (p.toList.map fun i=>vs.getD i aa.none)) n)->Q (.ref l) { s with heap:=h',toks:=tk }) :
  ai (ar prog w) A (call (.builtin "sorted") [x]) Q E s:=by
 refine Calls.call_function_entry kind_sorted plain_sorted entry_sorted (args_sorted1 _) ?_;unfold Builtin.«sorted»;refine af (m:=checkCount "sorted" 1 1 _) (az ?_);refine af (aoT _ _ fun h1 tk k1 z1=>?_);refine af (wpAny_newList ?_ (by rw[dA];lia));have hoL:(h1.push (d9 "list" vs.toArray 0)).get? h1.objs.size=some (d9 "list" vs.toArray 0):=cy _ rfl;have k2:∀b o,s.heap.get? b=some o->(h1.push (d9 "list" vs.toArray 0)).get? b=some o:=fun b o e=>b0 _ (k1 b o e);show ai _ _ _ _ _ { s with heap:=h1.push (d9 "list" vs.toArray 0),toks:=tk };refine af (ez (g9 slot_list_sort ⟨_,hoL,rfl⟩ entry_list_sort (Eo hoL (hk.moved fun b o e _=>k2 b o e) hne h64 fun p hp=>⟨_,rfl,?_⟩) (args_list_sort _)));refine az ⟨_,rfl,?_⟩;unfold sortedHeap;have ne1:∀b o,s.heap.get? b=some o->b≠h1.objs.size:=fun b o e=>bS (dP (bg e) z1);have g0:=b0 (d9 "list" #[] 0) (b0 (d9 "tuple" vs.toArray 0) (u_ hoL (fun _=>#[])));refine h _ _ _ _ p (fun b o e=>?_) z1 hp (u_ g0 (fun _=>ka (p.toList.map fun i=>vs.getD i aa.none)));rw[kL _ _ _ _ (ne1 b o e)];refine b0 _ (b0 _ ?_);rw[kL _ _ _ _ (ne1 b o e)];exact k2 b o e
theorem Wv{D:ab}{bf:List (List Int)}{Q:aa->ae->Prop}(hh:A.handled=none)(hS:eU prog w U s.heap D bf)(hne:∀ks∈bf,ks≠[])(h64:bf.length < 1000)
  (h:∀h' tk l n (out:List aa),(∀b o,s.heap.get? b=some o->h'.get? b=some o)->s.heap.objs.size<=l->Zh U out (cu bf)->h'.get? l=some (d9 "list" out.toArray n)->Q (.ref l) { s with heap:=h',toks:=tk }) :
  ai (ar prog w) A (call (.builtin "sorted") [.ref D]) Q E s:=by
 obtain⟨L,ep,t,f,ho,g,room,mb,pl,hf,hp,nd,uu⟩:=hS;have hlen:L.length=bf.length:=by have:=hp.length_eq;simpa using this
 have h7:=g.m7;have gs:Goes w L t:=⟨g.lies (by lia),by lia,pl.1,pl.2⟩
 have op:=Jy w D ep L;have osz:(oJ w D ep L).toList.length=L.length:=by rw[i0,uo]
 have kp:((oJ w D ep L).toList.map f).Perm bf:=((op.map f).trans (oa (by rw[eS];rfl))).trans hp;have each:∀x∈(oJ w D ep L).toList,∃b,x.2=.ref b/\cK (cb prog w) s.heap (f x) b/\U b (f x):=fun x hx=>by obtain⟨e,he,rfl⟩:=c8.mp (op.mem_iff.mp hx);obtain⟨b,h1,h2,h3⟩:=hf e he;exact⟨b,h1,h2,uu e he b h1⟩
 have at_:∀(i:Nat) v,((oJ w D ep L).toList.map (·.2))[i]?=some v->∃x,x∈(oJ w D ep L).toList/\v=x.2/\((oJ w D ep L).toList.map f).getD i []=f x:=fun i v hv=>by
  rw[cf]at hv;cases e:(oJ w D ep L).toList[i]? with
  |none=>rw[e]at hv;cases hv
  |some x =>
   rw[e]at hv;refine⟨x,ko e,(cz hv).symm,?_⟩;rw[eK,cf,e];rfl
 refine yG (vs:=(oJ w D ep L).toList.map (·.2)) (bf:=(oJ w D ep L).toList.map f) (fun Q' E' hq=>?_) ⟨by simp,fun i v hv=>?_⟩ (fun ks hks=>?_) (by rw[b8,osz];lia) fun h' tk l n p k hl hsp hg=>?_
 ·exact Rk (by simpa using hh) ho gs (by lia) hq
 ·obtain⟨x,hx,rfl,e⟩:=at_ i v hv;obtain⟨b,h1,h2,h3⟩:=each x hx;exact⟨b,h1,by rw[e];exact h2⟩
 ·exact hne ks (kp.mem_iff.mp hks)
 ·refine h h' tk l n _ k hl (vA ⟨by simp,fun i v hv=>?_⟩ hsp kp) hg;obtain⟨x,hx,rfl,e⟩:=at_ i v hv;obtain⟨b,h1,h2,h3⟩:=each x hx;exact⟨b,h1,by rw[e];exact h3⟩
end
end So
namespace Vl
open PySem PySem.Spec L2 So Tb
def aga(P:aE)(w:ay)(U:ab->List Int->Prop)(a:ab)(bf:List (List Int)):Heap->Prop:=fun h=>∃o,h.get? a=some o/\aae P w U o bf
section
variable{X:Cx}{B:Bs}{W:Wi}
theorem Mq{pins:List (ab×Obj)}{σ:St}{H:Hp}{s:ae}{b:ab}{ks:List Int}(I:Inv X pins σ H s)(h:pB X.K H b (ks.map V.int)):cK (cb X.prog X.w) s.heap ks b:=by
 obtain⟨its,r,⟨o,ho,hc,n,hd⟩,hz⟩:=I.tuple h;refine⟨o,its.toArray,n,ho,hc,hd,?_⟩;show ItemsAre _ ks its;clear hd h hz
 induction ks generalizing its with
 |nil=>cases r;exact .nil
 |cons k ks ih =>
  cases r with
  |cons r1 r2 =>
   obtain⟨t,rfl⟩:=r1;exact .cons (intKind_is X.prog X.w k t) (ih _ r2)
def ahO(P:aE)(w:ay)(K:ah):List V->Hp->VK->Prop:=fun xs H Q=>∃(p:ab) (ys:List V) (bf:List (List Int)) (U:ab->List Int->Prop),xs=[.ref p]/\(rG K H p ys∨pB K H p ys)/\bf.length=ys.length/\(bW bf).length < 1000 /\
 (∀(i:Nat) v,ys[i]?=some v->∃b,v=.ref b/\pB K H b ((bf.getD i []).map V.int)/\U b (bf.getD i []))/\∀l,H l=none->Q (.ref l) (upd H l (.ext (aga P w U l (bW bf))))
theorem Vals.get'{xs:List V}{us:List aa}(r:Vals xs us){i:Nat}{u:aa}(h:us[i]?=some u):∃x,xs[i]?=some x/\RelV x u:=by
 cases e:xs[i]? with
 |none=>have:=r.none_of e;rw[this]at h;cases h
 |some x=>obtain⟨u',h1,h2⟩:=r.get e;rw[h]at h1;cases h1;exact⟨x,rfl,h2⟩
theorem aaI(hc:X.calm=true)(hu:X.A.units + 8 < bo):iQ X (.type "set") (ahO X.prog X.w X.K):=by
 intro pins s σ H xs us Q I r h;obtain⟨p,ys,bf,U,rfl,hs,hlen,hz,hk,q⟩:=h;obtain⟨u,rfl,rx⟩:=r.one;cases rx;obtain⟨its,rv,hseq⟩:∃its:List aa,Vals ys its/\(s.heap.IsList p its.toArray∨s.heap.IsTuple p its.toArray):=by
  rcases hs with hs|hs
  ·obtain⟨its,rv,pl,_⟩:=I.list hs;exact⟨its,rv,.inl pl.isList⟩
  ·obtain⟨its,rv,pl,_⟩:=I.tuple hs;exact⟨its,rv,.inr pl⟩
 have hl:=rv.length;refine Ly (U:=U) (bf:=bf) (I.ok.hd hc) hu hseq hz (fun i v hv=>?_) (by rw[cw];lia) fun h' tk k hS=>?_
 ·obtain⟨x,h1,h2⟩:=Vals.get' rv (i:=i) (u:=v) (by simpa using hv);obtain⟨b,rfl,h3,h4⟩:=hk i x h1;exact⟨b,h2,Mq I h3,h4⟩
 ·refine⟨.ref s.heap.objs.size,_,I.laid (t':=tk) k (bj _) (show fD X.prog X.w _ h' _ (.ext (aga X.prog X.w U s.heap.objs.size (bW bf))) from⟨So.eU.obj hS,?_,?_⟩),rfl,q _ I.fresh⟩
  ·obtain⟨o,ho,_⟩:=So.eU.obj hS;exact⟨o,ho⟩
  ·rintro h1 h2 ⟨o,ho,x⟩ hk';exact⟨o,hk' o ho,x⟩
def agb(P:aE)(w:ay)(K:ah):List V->Hp->VK->Prop:=fun xs H Q=>∃(p:ab) (bf:List (List Int)) (U:ab->List Int->Prop),xs=[.ref p]/\H p=some (.ext (aga P w U p bf))/\(∀b ks,U b ks->pB K H b (ks.map V.int))/\(∀ks∈bf,ks≠[])/\bf.length < 1000 /\
 ∀l ys,H l=none->ys.length=(cu bf).length->(∀(i:Nat) v,ys[i]?=some v->∃b,v=.ref b/\U b ((cu bf).getD i []))->Q (.ref l) (upd H l (.lst ys))
theorem Mr(hc:X.calm=true):iQ X (.builtin "sorted") (agb X.prog X.w X.K):=by
 intro pins s σ H xs us Q I r h;obtain⟨p,bf,U,rfl,hp,hU,hne,h64,q⟩:=h;obtain⟨u,rfl,rx⟩:=r.one;cases rx;obtain⟨⟨o,ho,x⟩,_⟩:=I.hok _ _ hp;have hS:=So.aae.at x ho (fun b ks hb=>Mq I (hU b ks hb));refine So.Wv (I.ok.hd hc) hS hne h64 fun h' tk l n out k hl ho hg=>?_;have hln:H l=none:=I.hok.fresh hl;have hv:∃ys:List V,Vals ys out/\ys.length=(cu bf).length/\∀(i:Nat) v,ys[i]?=some v->∃b,v=.ref b/\U b ((cu bf).getD i []):=by
  refine⟨out.map fun v=>match v with|.ref b=>V.ref b|_=>V.non,?_,by simp[ho.1],fun i v hv=>?_⟩
  ·have:∀v∈out,∃b,v=aa.ref b:=fun v hv=>by obtain⟨i,hi⟩:=kK.mp hv;obtain⟨b,e,_⟩:=ho.2 i v hi;exact⟨b,e⟩
   clear ho hg
   induction out with
   |nil=>exact .nil
   |cons a out ih =>
    obtain⟨b,rfl⟩:=this a (.head _);exact .cons rfl (ih fun v hv=>this v (.tail _ hv))
  ·rw[cf]at hv;cases e:out[i]? with
   |none=>rw[e]at hv;cases hv
   |some v' =>
    rw[e]at hv;obtain⟨b,rfl,h2⟩:=ho.2 i v' e;exact⟨b,(cz hv).symm,h2⟩
 obtain⟨ys,rv,yl,yv⟩:=hv;have e0:s.heap.objs.size<=l:=hl;refine⟨.ref l,_,I.laid (t':=tk) k hl (show fD X.prog X.w _ h' _ (.lst ys) from⟨?_,out,n,rv,hg⟩),rfl,q l ys hln yl yv⟩;have:(cu bf).length=bf.length:=(eE bf).length_eq;rw[yl,this,dA];lia
def lN:List D->Option (List Int)
 | []=>some []
 | .int i::ds=>(lN ds).map (i::·)
 |_=>none
def lO:List D->Option (List (List Int))
 | []=>some []
 | .tup ds::es=>match lN ds with|some k=>(lO es).map (k::·)|none=>none
 |_=>none
def aj(ks:List Int):D:=.tup (ks.map .int)
theorem aaK(ks:List Int):lN (ks.map .int)=some ks:=by
 induction ks with
 |nil=>rfl
 |cons k ks ih=>simp[lN,ih]
theorem Ep:∀{ds:List D}{ks:List Int},lN ds=some ks->ds=ks.map .int
 | [],ks,h=>by simp[lN]at h;subst h;rfl
 | .int i::ds,ks,h=>by
  simp only[lN]at h;cases e:lN ds with
  |none=>rw[e]at h;cases h
  |some k=>rw[e]at h;simp at h;subst h;rw[Ep e];rfl
 | .non::ds,ks,h=>by simp[lN]at h
 | .bl _::ds,ks,h=>by simp[lN]at h
 | .str _::ds,ks,h=>by simp[lN]at h
 | .tup _::ds,ks,h=>by simp[lN]at h
 | .lst _::ds,ks,h=>by simp[lN]at h
 | .mZ _ _::ds,ks,h=>by simp[lN]at h
 | .je _ _::ds,ks,h=>by simp[lN]at h
theorem JH(bf:List (List Int)):lO (bf.map aj)=some bf:=by
 induction bf with
 |nil=>rfl
 |cons k bf ih=>simp[lO,aj,aaK]at ih ⊢;exact ih
theorem wJ:∀{ds:List D}{bf:List (List Int)},lO ds=some bf->ds=bf.map aj
 | [],ks,h=>by simp[lO]at h;subst h;rfl
 | .tup es::ds,ks,h=>by
  simp only[lO]at h;cases e:lN es with
  |none=>rw[e]at h;cases h
  |some k =>
   rw[e]at h;cases e2:lO ds with
   |none=>rw[e2]at h;cases h
   |some k2=>rw[e2]at h;simp at h;subst h;rw[wJ e2,Ep e];rfl
 | .int i::ds,ks,h=>by simp[lO]at h
 | .non::ds,ks,h=>by simp[lO]at h
 | .bl _::ds,ks,h=>by simp[lO]at h
 | .str _::ds,ks,h=>by simp[lO]at h
 | .lst _::ds,ks,h=>by simp[lO]at h
 | .mZ _ _::ds,ks,h=>by simp[lO]at h
 | .je _ _::ds,ks,h=>by simp[lO]at h
theorem qy{K:ah}{G:Hp}:∀{ks:List Int}{vs:List V},bL K G (ks.map .int) vs->vs=ks.map V.int
 | [],vs,r=>bG.mp r
 |k::ks,vs,r=>by obtain⟨v,vs',rfl,r1,r2⟩:=aQ.mp r;rw[aM.mp r1,qy r2];rfl
theorem RJ{K:ah}{G:Hp}{ks:List Int}{v:V}:Rep K G (aj ks) v↔∃b,v=.ref b/\UG K G b ks:=by
 unfold aj UG;constructor
 ·intro h;obtain⟨a,vs,rfl,q,r⟩:=bw.mp h;rw[qy r]at q;exact⟨a,rfl,q⟩
 ·rintro⟨b,rfl,q⟩;exact bw.mpr ⟨b,_,rfl,q,ud ks⟩
theorem JK{K:ah}{G:Hp}{bf:List (List Int)}{vs:List V}(r:bL K G (bf.map aj) vs):bf.length=vs.length/\∀(i:Nat) v,vs[i]?=some v->∃b,v=.ref b/\UG K G b (bf.getD i []):=by
 refine⟨by have:=r.length;simpa using this,fun i v hv=>?_⟩;obtain⟨d,h1,h2⟩:=r.get' hv;rw[cf]at h1;cases e:bf[i]? with
 |none=>rw[e]at h1;cases h1
 |some ks =>
  rw[e]at h1;cases h1;obtain⟨b,q1,q2⟩:=RJ.mp h2;exact⟨b,q1,by rw[eK,e];exact q2⟩
theorem jX{K:ah}{G:Hp}:∀{bf:List (List Int)}{vs:List V},vs.length=bf.length->(∀(i:Nat) v,vs[i]?=some v->∃b,v=.ref b/\UG K G b (bf.getD i []))->bL K G (bf.map aj) vs
 | [],vs,h,_=>bG.mpr (n4.mp h)
 |k::bf,[],h,_=>by cases h
 |k::bf,v::vs,h,a=>by refine aQ.mpr ⟨v,vs,rfl,RJ.mpr (a 0 v rfl),jX (by simpa using h) fun i u hu=>?_⟩;exact a (i + 1) u hu
def adn(P:aE)(w:ay)(K:ah)(W:Wi)(σ:St)(G H:Hp)(r:Rs (List (List Int)))(Q:VK):Prop :=
 match r with
 | .ok bf=>∀a H' G',Ext G H G' H'->H a=none->H' a=some (.ext (aga P w (UG K G') a bf))->Q (.ref a) H'
 | .ex c n=>∀H' G',Ext G H G' H'->W c n σ H'
 | .no=>False
def tK(P:aE)(w:ay)(K:ah)(B:Bs)(W:Wi)(f:au->Rs (List (List Int))):TE:=fun σ H Q=>∃ρ G,SR K B σ H ρ G/\adn P w K W σ G H (f ρ) Q
def SK(X:Cx)(B:Bs)(W:Wi)(e:ag)(f:au->Rs (List (List Int))):Prop:=PE X e (tK X.prog X.w X.K B W f)
def Ms:D->Rs (List (List Int))
 | .lst ds=>match lO ds with|some bf=>if (bW bf).length < 1000 then .ok bf else .no|none=>.no
 | .tup ds=>match lO ds with|some bf=>if (bW bf).length < 1000 then .ok bf else .no|none=>.no
 |_=>.no
def fK(f:au->Rs D):au->Rs (List (List Int)):=fun ρ=>(f ρ).bind fun d=>(Ms d).bind fun bf=>.ok (bW bf)
theorem agc{G H:Hp}(gh:Same G H)(tp:∀a xs,H a=some (.tup xs)->G a=some (.tup xs)){p:ab}{φ:Heap->Prop}(hp:H p=none):Ext G H G (upd H p (.ext φ)) where
 gg:=.refl _
 hh:=fun b o e=>by rw[aZ (aY e hp)];exact e
 gh:=fun b o e=>by rw[aZ (aY (gh _ _ e) hp)];exact gh _ _ e
 tp:=fun b ys e=>by
  by_cases q:b=p
  ·subst q;rw[bA]at e;cases e
  ·rw[aZ q]at e;exact tp _ _ e
 nw:=fun b o e n=>n
theorem ajA{e:ag}{p pos:Pos}{f:au->Rs D}(hc:X.calm=true) (hu:X.A.units + 8 < bo) (hm:X.mg "set"=none) (he:SE X B W e f) (hg:Gl X "set":=by rfl) (hst:a9 [e] X.env=[(false,aS e X.env)]:=by rfl) :
  SK X B W (.Call (.Name "set" p) [e] [] pos) (fK f):=by
 refine PE.imp (yr (aaI hc hu) hg hm PyProof.Rows.boot_set (dg he gP hst) (by decide) (by decide) hst rfl) fun σ H Q h=>?_;obtain⟨ρ,G,s,p⟩:=h;refine⟨ρ,G,s,?_⟩;unfold fK at p;cases e1:f ρ with
 |ok d =>
  rw[e1]at p;have p':adn X.prog X.w X.K W σ G H ((Ms d).bind fun bf=>.ok (bW bf)) Q:=p;intro v H' G' x r;have gD:∀(a:ab) (vs:List V) (bf:List (List Int)),v=.ref a->(rG X.K H' a vs∨pB X.K H' a vs)->bL X.K G' (bf.map aj) vs->(bW bf).length < 1000->adn X.prog X.w X.K W σ G H (.ok (bW bf)) Q->ahO X.prog X.w X.K [v] H' Q:=by
   intro a vs bf ea hs rr hz pp;obtain⟨hl,hk⟩:=JK rr;refine⟨a,vs,bf,UG X.K G',by rw[ea],hs,hl,hz,fun i u hu'=>?_,fun l hl'=>?_⟩
   ·obtain⟨b,q1,q2⟩:=hk i u hu';exact⟨b,q1,Same.gK x.gh q2,q2⟩
   ·exact pp l _ G' (x.trans (agc x.gh x.tp hl')) (by cases e:H l with|none=>rfl|some o=>have:=x.hh _ _ e;rw[hl']at this;cases this) bA
  unfold Ms at p';split at p'
  ·rename_i ds;split at p'
   ·rename_i bf ek;by_cases hz:(bW bf).length < 1000
    ·rw[if_pos hz]at p';obtain⟨a,vs,rfl,q,rr⟩:=aW.mp r;have hl:=rr.length;rw[wJ ek]at rr;exact gD a vs bf rfl (.inl (x.gh.seq q)) rr hz p'
    ·rw[if_neg hz]at p';exact p'.elim
   ·exact p'.elim
  ·rename_i ds;split at p'
   ·rename_i bf ek;by_cases hz:(bW bf).length < 1000
    ·rw[if_pos hz]at p';obtain⟨a,vs,rfl,q,rr⟩:=bw.mp r;have hl:=rr.length;rw[wJ ek]at rr;exact gD a vs bf rfl (.inr (Same.gK x.gh q)) rr hz p'
    ·rw[if_neg hz]at p';exact p'.elim
   ·exact p'.elim
  ·exact p'.elim
 |ex c n=>rw[e1]at p;exact p
 |no=>rw[e1]at p;exact p
instance (bf:List (List Int)):Decidable (∀ks∈bf,ks≠[]):=inferInstance
def Mt:List (List Int)->Rs D:=fun bf=>if (∀ks∈bf,ks≠[])/\bf.length < 1000 then .ok (.lst ((cu bf).map aj)) else .no
def Er(f:au->Rs (List (List Int))):au->Rs D:=fun ρ=>(f ρ).bind Mt
theorem Ww{e:ag}{p pos:Pos}{f:au->Rs (List (List Int))}(hc:X.calm=true) (hm:X.mg "sorted"=none) (he:SK X B W e f) (hg:Gl X "sorted":=by rfl) (hst:a9 [e] X.env=[(false,aS e X.env)]:=by rfl) :
  SE X B W (.Call (.Name "sorted" p) [e] [] pos) (Er f):=by
 refine PE.imp (nu (Mr hc) hg hm ox (dg he gP hst) (by decide) (by decide) hst rfl) fun σ H Q h=>?_;obtain⟨ρ,G,s,p⟩:=h;refine⟨ρ,G,s,?_⟩;unfold Er at p;cases e1:f ρ with
 |ok bf =>
  rw[e1]at p;intro a H' G' x _ ha;have p':Post X.K W σ G H (Mt bf) Q:=p;unfold Mt at p';by_cases hc':(∀ks∈bf,ks≠[])/\bf.length < 1000
  ·rw[if_pos hc']at p';refine⟨a,bf,UG X.K G',rfl,ha,fun b ks hb=>Same.gK x.gh hb,hc'.1,hc'.2,fun l ys hl hy hv=>?_⟩;have x2:=nJ (xs:=ys) x.gh x.tp hl;refine p' _ _ _ (x.trans x2) (aW.mpr ⟨l,ys,rfl,.of bA,?_⟩);exact(jX hy hv).mono x2.gg
  ·rw[if_neg hc']at p';exact p'.elim
 |ex c n=>rw[e1]at p;exact p
 |no=>rw[e1]at p;exact p
end
section
variable{X:Cx}{B:Bs}{W:Wi}
def COr(a b:List (List Int)):Prop:=a.length + b.length < 900
def amd(a b:List (List Int)):Prop:=a.length < 900/\b.length < 900
def ame(a b:List (List Int)):Prop:=a.length < 900/\b.length < 900/\(b=[]∨¬a.length / 4 > b.length)
instance (a b:List (List Int)):Decidable (COr a b):=by unfold COr;exact inferInstance
instance (a b:List (List Int)):Decidable (amd a b):=by unfold amd;exact inferInstance
instance (a b:List (List Int)):Decidable (ame a b):=by unfold ame;exact inferInstance
end
end Vl
namespace Vl
open PySem PySem.Spec L2
def agd(i:Nat)(fs:au->Rs (List D)):au->Ou:=fun ρ=>oR (fs ρ) ρ fun ds=>if ds.length<=1000 then .nx (ρ.set i (.ow ds)) else .no
def ado(i:Nat)(f:au->Rs D):au->Ou:=fun ρ=>match ρ[i]? with|some (.ow ds)=>oR (f ρ) ρ fun d=>if ds.length < 1000000 then .nx (ρ.set i (.ow (ds++[d]))) else .no|_=>.no
def adp(i:Nat)(g:au->Ou):au->Ou:=fun ρ=>g (CT i ρ)
section
variable{X:Cx}{K:ah}{B:Bs}{W:Wi}{σ:St}{G H:Hp}{ρ:au}
theorem adq(i:Nat){x:Str}{es:List ag}{pos pos' lp:Pos}{f:au->Rs (List D)}(hN:X.N.Nodup)(he:SA X B W es f)(hi:X.N[i]?=some x:=by rfl)(hx:Kw X.env.scope x:=by first|exact Or.inl rfl|exact Or.inr rfl)(hs:d6 (.List es lp) (some (.Name x pos')) pos.line X.env=pure false:=by rfl)(hf:X.fn x=true∨X.env.scope.names.lookup x=some .local:=by first|exact .inl rfl|exact .inr rfl|assumption) :
  SS X B W (.Assign [.Name x pos'] (.List es lp) pos) (agd i f):=aiX hN hi hx he hs hf
theorem ajB(i:Nat) {x:Str}{e:ag}{pos p1 p2 cp:Pos}{f:au->Rs D}(he:SE X B W e f) (hN:X.N[i]?=some x:=by rfl) (hv:Kv X.env.scope x:=by first|exact Or.inl rfl|exact Or.inr (Or.inl rfl)|exact Or.inr (Or.inr rfl)) (hd:(x == ("__debug__":Str))=false:=by decide)
  (hcd:(x == ("__classdict__":Str))=false:=by decide) (hst:a9 [e] X.env=[(false,aS e X.env)]:=by rfl)
  (hbase:ku (.Name x p1) "append" X.env (aS (.Name x p1) X.env)=aS (.Name x p1) X.env:=by rfl)
  (hfew:((c6 cp (a9 [e] X.env)).all (fun x=>!x.1) && (ik cp (il [] X.env)).all (fun x=>x.1.isSome)
   && decide (([e]:List ag).length + ([]:List i4).length + (if ([]:List i4).isEmpty then 0 else 1) < 30))=true:=by rfl)
  (hline:(p2.endLine == cp.line)=true:=by rfl) (hplain:(c6 cp (a9 [] X.env)).any (·.1)=false:=by rfl)
  (hs:d6 (.Call (.Attribute (.Name x p1) "append" p2) [e] [] cp) none pos.line X.env=pure false:=by rfl) :
  SS X B W (.Expr (.Call (.Attribute (.Name x p1) "append" p2) [e] [] cp) pos) (ado i f) :=
 aar (pe:=abO vc PySem.F.slot_list_append PySem.F.type_list_append Jl (gO hN hv hd hcd) (dg he gP hst) hbase hfew hline hst hplain) (gO hN hv hd hcd) he hst hs
theorem Wx(i:Nat){st:List be}{g:au->Ou}(h:uM X B W st g):uM X B W st (adp i g):=afB i h
theorem wK{e:ag}{p pos:Pos}{fa:au->Rs D}(hm:X.mg "tuple"=none) (ha:SE X B W e fa) (hg:Gl X "tuple":=by rfl) (he:a9 [e] X.env=[(false,aS e X.env)]:=by rfl):SE X B W (.Call (.Name "tuple" p) [e] [] pos) (fA (ao fa aR) qg) :=
 Jq GJ ach hg hm PyProof.Rows.boot_tuple (ak ha aK he) (by decide) (by decide) he rfl
def adt:List D->Rs D
 | [.lst ds]=>.ok (.lst ds)
 | [.tup ds]=>.ok (.lst ds)
 |_=>.no
def Wy:List D->Rs D
 | [.int i]=>.ok (.int i)
 | [.bl b]=>.ok (.int (if b then 1 else 0))
 |_=>.no
theorem ajC:rQ K (fun xs H Q=>(∃i,xs=[.int i]/\Q (.int i) H)∨∃k,xs=[.bl k]/\Q (.int (if k then 1 else 0)) H) Wy:=by
 intro B W σ ρ G H ds vs Q s r p;unfold Wy at p;split at p
 ·obtain⟨v,vs',rfl,r1,r2⟩:=aQ.mp r;rw[bG.mp r2,aM.mp r1];exact .inl ⟨_,rfl,Post.ok s p (aM.mpr rfl)⟩
 ·obtain⟨v,vs',rfl,r1,r2⟩:=aQ.mp r;rw[bG.mp r2,bK.mp r1];exact .inr ⟨_,rfl,Post.ok s p (aM.mpr rfl)⟩
 ·exact p.elim
theorem ajD{e:ag}{p pos:Pos}{fa:au->Rs D}(hm:X.mg "int"=none) (ha:SE X B W e fa) (hg:Gl X "int":=by rfl) (he:a9 [e] X.env=[(false,aS e X.env)]:=by rfl):SE X B W (.Call (.Name "int" p) [e] [] pos) (fA (ao fa aR) Wy) :=
 Jq aal ajC hg hm PyProof.Rows.Boot.«int» (ak ha aK he) (by decide) (by decide) he rfl
def wL:D->Bool
 | .non=>true
 |_=>false
def aoU:D->D->Rs D:=fun x y=>match y with|.non=>.ok (.bl (wL x))|_=>.no
def amf:D->D->Rs D:=fun x y=>match y with|.non=>.ok (.bl (!wL x))|_=>.no
variable{a b:ag}{pos:Pos}{fa fb:au->Rs D}
end
end Vl
namespace Vl
open PySem PySem.Spec L2 So Tb
section
variable{X:Cx}{B:Bs}{W:Wi}{K:ah}
def adu(K:ah):List V->Hp->VK->Prop:=fun xs H Q=>∃(p:ab) (ys:List V) (bf:List (List Int)) (U:ab->List Int->Prop),xs=[.ref p]/\rG K H p ys/\bf.length=ys.length/\ys.length < 1000/\(∀ks∈bf,ks≠[]) /\
 (∀(i:Nat) v,ys[i]?=some v->∃b,v=.ref b/\pB K H b ((bf.getD i []).map V.int)/\U b (bf.getD i [])) /\
 ∀l zs,H l=none->zs.length=(cu bf).length->(∀(i:Nat) v,zs[i]?=some v->∃b,v=.ref b/\U b ((cu bf).getD i []))->Q (.ref l) (upd H l (.lst zs))
theorem adw{U:ab->List Int->Prop}{out:List aa}{bf:List (List Int)}(ho:Zh U out bf):∃ys:List V,Vals ys out/\ys.length=bf.length/\∀(i:Nat) v,ys[i]?=some v->∃b,v=.ref b/\U b (bf.getD i []):=by
 refine⟨out.map fun v=>match v with|.ref b=>V.ref b|_=>V.non,?_,by simp[ho.1],fun i v hv=>?_⟩
 ·have:∀v∈out,∃b,v=aa.ref b:=fun v hv=>by obtain⟨i,hi⟩:=kK.mp hv;obtain⟨b,e,_⟩:=ho.2 i v hi;exact⟨b,e⟩
  clear ho
  induction out with
  |nil=>exact .nil
  |cons a out ih =>
   obtain⟨b,rfl⟩:=this a (.head _);exact .cons rfl (ih fun v hv=>this v (.tail _ hv))
 ·rw[cf]at hv;cases e:out[i]? with
  |none=>rw[e]at hv;cases hv
  |some v' =>
   rw[e]at hv;obtain⟨b,rfl,h2⟩:=ho.2 i v' e;exact⟨b,(cz hv).symm,h2⟩
theorem Wz:iQ X (.builtin "sorted") (adu X.K):=by
 intro pins s σ H xs us Q I r h;obtain⟨p,ys,bf,U,rfl,hs,hlen,hz,hne,hk,q⟩:=h;obtain⟨u,rfl,rx⟩:=r.one;cases rx;obtain⟨its,rv,pl,_⟩:=I.list hs;have hl:=rv.length;have each:∀(i:Nat) v,its[i]?=some v->∃b,v=.ref b/\cK (cb X.prog X.w) s.heap (bf.getD i []) b/\U b (bf.getD i []):=fun i v hv=>by obtain⟨x,h1,h2⟩:=Vals.get' rv hv;obtain⟨b,rfl,h3,h4⟩:=hk i x h1;exact⟨b,h2,Mq I h3,h4⟩
 refine So.yG (vs:=its) (bf:=bf) (fun Q' E' hq=>?_) ⟨by lia,fun i v hv=>let ⟨b,h1,h2,_⟩:=each i v hv;⟨b,h1,h2⟩⟩ hne (by lia) fun h' tk l n p' k hl' hsp hg=>?_
 ·refine PyProof.Rows.collect_list pl.isList ?_ (by rw[dA];lia);refine hq _ s.toks (fun b o e=>?_) ?_
  ·rw[kL _ _ _ _ (bS (bg e))];exact b0 _ e
  ·rw[rf,PyProof.Rows.size_push'];exact nv _
 ·have ho:=vA (U:=U) (vs:=its) (bf:=bf) (Mp:=bf) ⟨by lia,fun i v hv=>let ⟨b,h1,_,h3⟩:=each i v hv;⟨b,h1,h3⟩⟩ hsp (.refl _);obtain⟨zs,r1,zl,zv⟩:=adw ho;have hln:H l=none:=I.hok.fresh hl';refine⟨.ref l,_,I.laid (t':=tk) k hl' (show fD X.prog X.w _ h' _ (.lst zs) from⟨?_,_,n,r1,hg⟩),rfl,q l zs hln zl zv⟩;have:(cu bf).length=bf.length:=(eE bf).length_eq;rw[zl,this,dA];lia
def WD(x:Int):List Int->List Int
 | []=>[x]
 |y::ys=>if y < x then y::WD x ys else x::y::ys
def wM(l:List Int):List Int:=l.foldr WD []
theorem yH(x:Int):∀l,(WD x l).Perm (x::l)
 | []=>.refl _
 |y::ys=>by
  unfold WD;split
  ·exact((yH x ys).cons y).trans (g7.swap x y ys)
  ·exact .refl _
theorem vB:∀l,(wM l).Perm l
 | []=>.refl _
 |x::l=>(yH x (wM l)).trans ((vB l).cons x)
theorem Zi(x:Int):∀l,l.Pairwise (·<=·)->(WD x l).Pairwise (·<=·)
 | [],_=>by simp[WD]
 |y::ys,h=>by
  obtain⟨h1,h2⟩:=fq.mp h;unfold WD;split
  ·rename_i c;refine fq.mpr ⟨fun z hz=>?_,Zi x ys h2⟩;rcases bz.mp ((yH x ys).mem_iff.mp hz) with rfl|hz
   ·lia
   ·exact h1 z hz
  ·rename_i c;refine fq.mpr ⟨fun z hz=>?_,h⟩;rcases bz.mp hz with rfl|hz
   ·lia
   ·have:=h1 z hz;lia
theorem RK:∀l,(wM l).Pairwise (·<=·)
 | []=>.nil
 |x::l=>Zi x _ (RK l)
theorem Es:∀{l l':List Int},l.Perm l'->l.Pairwise (·<=·)->l'.Pairwise (·<=·)->l=l'
 | [],l',p,_,_=>(List.nil_perm.mp p).symm
 |x::l,[],p,_,_=>by cases List.perm_nil.mp p
 |x::l,y::l',p,h,h'=>by
  obtain⟨h1,h2⟩:=fq.mp h;obtain⟨h1',h2'⟩:=fq.mp h';have e:x=y:=by
   have m1:=bz.mp (p.mem_iff.mp (df (a:=x) (l:=l)));have m2:=bz.mp (p.mem_iff.mpr (df (a:=y) (l:=l')));rcases m1 with m1|m1
   ·exact m1
   ·rcases m2 with m2|m2
    ·exact m2.symm
    ·have:=h1' x m1;have:=h1 y m2;lia
  subst e;rw[Es (p.cons_inv) h2 h2']
theorem adx{l l':List Int}(p:l.Perm l')(h:l.Pairwise (·<=·)):l=wM l':=Es (p.trans (vB l').symm) h (RK l')
theorem uc:∀{us:List aa}{ns:List Int},PyProof.Rows.IntsAre us ns->Vals (ns.map V.int) us:=by
 intro us ns h
 induction h with
 |nil=>exact .nil
 |cons n t _ ih=>exact .cons ⟨t,rfl⟩ ih
def ady(K:ah):List V->Hp->VK->Prop:=fun xs H Q=>∃(p:ab) (ns:List Int),xs=[.ref p]/\rG K H p (ns.map V.int)/\ns.length < 64/\∀l,H l=none->Q (.ref l) (upd H l (.lst ((wM ns).map V.int)))
theorem WK:iQ X (.builtin "sorted") (ady X.K):=by
 intro pins s σ H xs us Q I r h;obtain⟨p,ns,rfl,hs,hz,q⟩:=h;obtain⟨u,rfl,rx⟩:=r.one;cases rx;obtain⟨its,rv,pl,_⟩:=I.list hs;have hl:=rv.length;simp only[b8]at hl;refine PyProof.Rows.sorted_ints pl.isList (VH rv) (by lia) fun out ns' h1 h2 h3=>?_;have e:ns'=wM ns:=adx h2 h3;subst e;have hsz:((s.heap.push (kb "list" #[] 0)).update s.heap.objs.size (cE (·++its.toArray))).objs.size=s.heap.objs.size + 1:=by rw[rf,PyProof.Rows.size_push']
 have hoL:(((s.heap.push (kb "list" #[] 0)).update s.heap.objs.size (cE (·++its.toArray))).push (kb "list" its.toArray 0)).get? (s.heap.objs.size + 1)=some (kb "list" its.toArray 0):=by rw[<- hsz];exact cy _ rfl
 have keep:∀b o,s.heap.get? b=some o->(((s.heap.push (kb "list" #[] 0)).update s.heap.objs.size (cE (·++its.toArray))).push (kb "list" its.toArray 0)).get? b=some o:=fun b o q=>by refine b0 _ ?_;rw[kL _ _ _ _ (bS (bg q))];exact b0 _ q
 have g0:=b0 (kb "list" #[] 0) (b0 (kb "tuple" its.toArray 0) (PyProof.Rows.get?_update_seq hoL (fun _=>#[])));have g1:=PyProof.Rows.get?_update_seq g0 (fun _=>out);have hln:H (s.heap.objs.size + 1)=none:=I.hok.fresh (nv _);refine⟨.ref (s.heap.objs.size + 1),_,I.laid (t':=s.toks) (fun b o z=>?_) (nv _) (show fD X.prog X.w _ _ _ (.lst ((wM ns).map V.int)) from⟨?_,out.toList,_,uc h1,by rw[Array.toArray_toList];exact g1⟩),rfl,q _ hln⟩
 ·unfold PyProof.Rows.sortedAll PyProof.Rows.sortedHeap;have ne:b≠s.heap.objs.size + 1:=bS (jS (bg z));rw[kL _ _ _ _ ne];refine b0 _ (b0 _ ?_);rw[kL _ _ _ _ ne];exact keep b o z
 ·rw[b8,(vB ns).length_eq,dA];lia
def yI:List D->Rs D
 | [.lst ds]=>match lO ds with
  |some bf=>if (∀ks∈bf,ks≠[])/\bf.length < 1000 then .ok (.lst ((cu bf).map aj)) else .no
  |none=>match lN ds with
   |some ns=>if ns.length < 64 then .ok (.lst ((wM ns).map .int)) else .no
   |none=>.no
 |_=>.no
theorem adz:rQ K (fun xs H Q=>adu K xs H Q∨ady K xs H Q) yI:=by
 intro B W σ ρ G H ds vs Q s r p;unfold yI at p;split at p
 ·rename_i ds;obtain⟨v,vs',rfl,r1,r2⟩:=aQ.mp r;obtain⟨a,us,rfl,q,rr⟩:=aW.mp r1;rw[bG.mp r2];split at p
  ·rename_i bf ek;split at p
   ·rename_i hc;rw[wJ ek]at rr;obtain⟨hl,hk⟩:=JK rr;refine .inl ⟨a,us,bf,UG K G,rfl,s.en.gh.seq q,hl,by lia,hc.1,fun i v hv=>?_,fun l zs hl' hz hv=>?_⟩
    ·obtain⟨b,q1,q2⟩:=hk i v hv;exact⟨b,q1,Same.gK s.en.gh q2,q2⟩
    ·have x:=nJ (xs:=zs) s.en.gh s.en.tp hl';exact p _ _ _ x (aW.mpr ⟨l,zs,rfl,.of bA,(jX hz hv).mono x.gg⟩)
   ·exact p.elim
  ·split at p
   ·rename_i ns ei;split at p
    ·rename_i hc;rw[Ep ei]at rr;have eu:=qy rr;subst eu;refine .inr ⟨a,ns,rfl,s.en.gh.seq q,hc,fun l hl=>?_⟩;have x:=nJ (xs:=(wM ns).map V.int) s.en.gh s.en.tp hl;exact p _ _ _ x (aW.mpr ⟨l,_,rfl,.of bA,ud _⟩)
    ·exact p.elim
   ·exact p.elim
 ·exact p.elim
theorem iQ.or{f:aa}{r r':List V->Hp->VK->Prop}(h:iQ X f r)(h':iQ X f r'):iQ X f (fun xs H Q=>r xs H Q∨r' xs H Q):=fun pins s σ H xs us Q I rv q=>q.elim (h pins s σ H xs us Q I rv) (h' pins s σ H xs us Q I rv)
theorem adA{e:ag}{p pos:Pos}{fa:au->Rs D}(hm:X.mg "sorted"=none) (ha:SE X B W e fa) (hg:Gl X "sorted":=by rfl) (he:a9 [e] X.env=[(false,aS e X.env)]:=by rfl):SE X B W (.Call (.Name "sorted" p) [e] [] pos) (fA (ao fa aR) yI) :=
 wg (iQ.or Wz WK) adz hg hm ox (ak ha aK he) (by decide) (by decide) he rfl
end
end Vl
namespace Vl
open PySem PySem.Spec L2
section
variable{X:Cx}{B:Bs}{W:Wi}{K:ah}
end
theorem agf(i:Nat){X:Cx}{B:Bs}{W:Wi}{y:Str}{py spos:Pos}{tg iter:ag}{elt:ag}{sc:Scope}{pos:Pos}{N:List Str}{nt:Nat}{caps:List Nat}{h:Tg}{fe:au->Rs D}{fi:au->Rs (List D)}(hN:X.N.Nodup)
  (c:vh X sc N nt caps) (hc:X.calm=true) (hnames:sc.names.all (fun y=>y.2 != .local || sc.names.lookup y.1 == some .local)=true) (hi:SI X B W tg iter fi) (hno:qm h)
  (ht:∀s₀ H₀ C ex pins B',SG (jH X N s₀ H₀ sc (fJ sc X.env) C ex pins) B' tg h)
  (he:∀s₀ H₀ C ex pins B',SE (jH X N s₀ H₀ sc (fJ sc X.env) C ex pins) B' WF elt fe)
  (hs:∀x,fw iter X.env x=pure x:=by intro _;rfl) (hi':X.N[i]?=some y:=by rfl) (hx:Kw X.env.scope y:=by first|exact Or.inl rfl|exact Or.inr rfl)
  (hsw:d6 (.ListComp elt [⟨tg,iter,[],0⟩] sc pos) (some (.Name y py)) spos.line X.env=pure true:=by rfl)
  (hf:X.fn y=true∨X.env.scope.names.lookup y=some .local:=by first|exact .inl rfl|exact .inr rfl|assumption) :
  SS X B W (.Assign [.Name y py] (.ListComp elt [⟨tg,iter,[],0⟩] sc pos) spos) (mj i (dG h (fun _=>.ok true) fe nt caps fi)) :=
 Dw hN hi' hx c hc (fun y hy hl=>by
  have:=kz.mp hnames y hy;simp only[pd,bne_iff_ne,beq_iff_eq,ne_eq]at this;exact this.elim (fun z=>absurd hl z) id) hi hno ht (.inl ⟨rfl,rfl⟩) he hs hsw hf
theorem JL(i:Nat){X:Cx}{B:Bs}{W:Wi}{y:Str}{py spos:Pos}{tg iter:ag}{elt cnd:ag}{sc:Scope}{pos:Pos}{N:List Str}{nt:Nat}{caps:List Nat}{h:Tg}{ft:au->Rs Bool}{fe:au->Rs D}{fi:au->Rs (List D)}(hN:X.N.Nodup)
  (c:vh X sc N nt caps) (hc:X.calm=true) (hnames:sc.names.all (fun y=>y.2 != .local || sc.names.lookup y.1 == some .local)=true) (hi:SI X B W tg iter fi) (hno:qm h)
  (ht:∀s₀ H₀ C ex pins B',SG (jH X N s₀ H₀ sc (fJ sc X.env) C ex pins) B' tg h)
  (hif:∀s₀ H₀ C ex pins B',ST (jH X N s₀ H₀ sc (fJ sc X.env) C ex pins) B' WF cnd ft)
  (he:∀s₀ H₀ C ex pins B',SE (jH X N s₀ H₀ sc (fJ sc X.env) C ex pins) B' WF elt fe)
  (hs:∀x,fw iter X.env x=pure x:=by intro _;rfl) (hi':X.N[i]?=some y:=by rfl) (hx:Kw X.env.scope y:=by first|exact Or.inl rfl|exact Or.inr rfl)
  (hsw:d6 (.ListComp elt [⟨tg,iter,[cnd],0⟩] sc pos) (some (.Name y py)) spos.line X.env=pure true:=by rfl)
  (hf:X.fn y=true∨X.env.scope.names.lookup y=some .local:=by first|exact .inl rfl|exact .inr rfl|assumption) :
  SS X B W (.Assign [.Name y py] (.ListComp elt [⟨tg,iter,[cnd],0⟩] sc pos) spos) (mj i (dG h ft fe nt caps fi)) :=
 Dw hN hi' hx c hc (fun y hy hl=>by
  have:=kz.mp hnames y hy;simp only[pd,bne_iff_ne,beq_iff_eq,ne_eq]at this;exact this.elim (fun z=>absurd hl z) id) hi hno ht (.inr ⟨cnd,rfl,hif⟩) he hs hsw hf
section
variable{X:Cx}{B:Bs}{W:Wi}{K:ah}{a b:ag}{pos:Pos}{fa fb:au->Rs D}
end
section
variable{X:Cx}{B:Bs}{W:Wi}
theorem wN{pins:List (ab×Obj)}{σ:St}{H:Hp}{s:ae}{b:ab}{ks:List Int}(I:Inv X pins σ H s)(h:pB X.K H b (ks.map V.int)):cK (cb X.prog X.w) s.heap ks b:=by
 obtain⟨its,r,⟨o,ho,hc,n,hd⟩,hz⟩:=I.tuple h;refine⟨o,its.toArray,n,ho,hc,hd,?_⟩;show ItemsAre _ ks its;clear hd h hz
 induction ks generalizing its with
 |nil=>cases r;exact .nil
 |cons k ks ih =>
  cases r with
  |cons r1 r2 =>
   obtain⟨t,rfl⟩:=r1;exact .cons (intKind_is X.prog X.w k t) (ih _ r2)
abbrev DP(U:ab->List Int->Prop):=Paired (fun(p:List Int×V) (q:List Int×ab×aa)=>p.1=q.1/\U q.2.1 q.1/\RelV p.2 q.2.2)
theorem Et{pins:List (ab×Obj)}{σ:St}{H:Hp}{s:ae}{d:ab}{U:ab->List Int->Prop}{bI:List (List Int×V)}(I:Inv X pins σ H s)(hd:Ac H d U bI)(hU:∀b ks,U b ks->UG X.K H b ks) :
  ∃xs,s.heap.DictOfH (mS (cb X.prog X.w)) d xs/\(d == f7)=false/\DP U bI xs/\(xs.map (·.1)).Nodup:=by
 obtain⟨φ,hd,hφ⟩:=hd;obtain⟨o,es,ep,xs,h1,h2,h3,h4,h5,h6,h7⟩:=hφ _ (I.hok d _ hd).1;refine⟨xs,⟨o,es,ep,h1,h2,h3,h5,fun x hx=>?_,h6⟩,h4,h7,h6⟩;have:∀{bI:List (List Int×V)}{xs:List (List Int×ab×aa)},DP U bI xs->∀x∈xs,U x.2.1 x.1:=by
  intro bI xs r
  induction r with
  |nil=>intro x hx;cases hx
  |cons r1 _ ih =>
   intro x hx;rcases bz.mp hx with rfl|hx
   ·exact r1.2.1
   ·exact ih x hx
 exact wN I (hU _ _ (this h7 x hx))
def sH(bI:List (List Int×V))(ks:List Int):Option V:=(bI.find? fun p=>decide (p.1=ks)).map (·.2)
def WL(bI:List (List Int×V))(ks:List Int)(v:V):List (List Int×V):=if (sH bI ks).isSome then bI.map (fun p=>if p.1=ks then (p.1,v) else p) else bI++[(ks,v)]
theorem sI{U:ab->List Int->Prop}{ks:List Int}:∀{bI:List (List Int×V)}{xs:List (List Int×ab×aa)},DP U bI xs->(sH bI ks=none/\atKey xs ks=none)∨∃v q,sH bI ks=some v/\atKey xs ks=some q/\RelV v q.2
 | [],_,.nil=>.inl ⟨rfl,rfl⟩
 |p::bI,q::xs,.cons r t=>by
  by_cases c:p.1=ks
  ·have c':q.1=ks:=r.1▸c;exact .inr ⟨p.2,q.2,by simp[sH,eT,c],by simp[atKey,eT,c'],r.2.2⟩
  ·have c':¬q.1=ks:=fun z=>c (r.1.trans z);have e1:sH (p::bI) ks=sH bI ks:=by simp[sH,eT,c]
   have e2:atKey (q::xs) ks=atKey xs ks:=by simp[atKey,eT,c']
   rw[e1,e2];exact sI t
theorem Paired.app{α β:Type}{F:α->β->Prop}:∀{l₁ l₁':List α}{l₂ l₂':List β},Paired F l₁ l₂->Paired F l₁' l₂'->Paired F (l₁++l₁') (l₂++l₂')
 |_,_,_,_,.nil,t'=>t'
 |_,_,_,_,.cons r t,t'=>.cons r (Paired.app t t')
theorem adB{U:ab->List Int->Prop}{ks:List Int}{b:ab}{v:V}{u:aa}{bI:List (List Int×V)}{xs:List (List Int×ab×aa)}(r:DP U bI xs)(hb:U b ks)(rv:RelV v u):DP U (WL bI ks v) (storedH xs ks b u):=by
 rcases sI (ks:=ks) r with ⟨e1,e2⟩|⟨v',q,e1,e2,_⟩
 ·unfold WL storedH;rw[e1,e2];exact Paired.app r (.cons ⟨rfl,hb,rv⟩ .nil)
 ·unfold WL storedH;rw[e1,e2];show DP U (bI.map _) (xs.map _);clear e1 e2
  induction r with
  |nil=>exact .nil
  |cons r1 _ ih =>
   refine .cons ?_ ih;rename_i p q' _ _ _;by_cases c:p.1=ks
   ·have c':q'.1=ks:=r1.1▸c;unfold putAt;dsimp only;rw[if_pos c,if_pos c'];exact⟨r1.1,r1.2.1,rv⟩
   ·have c':¬q'.1=ks:=fun z=>c (r1.1.trans z);unfold putAt;dsimp only;rw[if_neg c,if_neg c'];exact r1
def Zj(K:ah):R2:=fun x y H Q=>∃(b d:ab) (ks:List Int) (U:ab->List Int->Prop) (bI:List (List Int×V)),x=.ref b/\y=.ref d/\pB K H b (ks.map V.int)/\Ac H d U bI/\(∀b ks,U b ks->UG K H b ks)/\Q (.bl (sH bI ks).isSome) H
theorem Zk(hu:X.A.units + 1 < bo):uL X (eR .In) (Zj X.K):=by
 intro pins s σ H x y v u Q I rx ry ⟨b,d,ks,U,bI,e1,e2,hb,hd,hU,q⟩;subst e1;subst e2;cases rx;cases ry;obtain⟨xs,hm,hs,hp,_⟩:=Et I hd hU;refine wpAny_in_heap (rh hu) (wN I hb) hs hm ⟨_,H,I.tok _,?_,q⟩;rcases sI (ks:=ks) hp with ⟨e1,e2⟩|⟨v',q',e1,e2,_⟩
 ·rw[e1,e2];rfl
 ·rw[e1,e2];rfl
def adC(K:ah):R2:=fun x y H Q=>∃(b d:ab) (ks:List Int) (U:ab->List Int->Prop) (bI:List (List Int×V)) (v:V),x=.ref d/\y=.ref b/\pB K H b (ks.map V.int)/\Ac H d U bI/\(∀b ks,U b ks->UG K H b ks)/\sH bI ks=some v/\Q v H
theorem agg(hu:X.A.units + 1 < bo):uL X getItem (adC X.K):=by
 intro pins s σ H x y v u Q I rx ry ⟨b,d,ks,U,bI,v',e1,e2,hb,hd,hU,hv,q⟩;subst e1;subst e2;cases rx;cases ry;obtain⟨xs,hm,hs,hp,_⟩:=Et I hd hU;rcases sI (ks:=ks) hp with ⟨e1,e2⟩|⟨v2,q',e1,e2,r2⟩
 ·rw[hv]at e1;cases e1
 ·rw[hv]at e1;cases e1;exact wpAny_getItem_heap (rh hu) (wN I hb) hm e2 ⟨_,H,I.tok _,r2,q⟩
theorem Zm{U:ab->List Int->Prop}{P:aE}{w:ay}{d:ab}{h':Heap}{xs:List (List Int×ab×aa)}{bI:List (List Int×V)}{H:Hp}(hm:h'.DictOfH (mS (cb P w)) d xs)(hs:(d == f7)=false)(hp:DP U bI xs):fD P w H h' d (.ext (oG U d bI)):=by obtain⟨o,es,ep,h1,h2,h3,h4,h5,h6⟩:=hm;refine⟨⟨o,es,ep,xs,h1,h2,h3,hs,h4,h6,hp⟩,⟨o,h1⟩,?_⟩;rintro g1 g2 ⟨o,es,ep,xs,h1,h2,h3,hs,h4,h6,hp⟩ k;exact⟨o,es,ep,xs,k _ h1,h2,h3,hs,h4,h6,hp⟩
end
section
variable{X:Cx}{B:Bs}{W:Wi}
theorem oG.mono{U U':ab->List Int->Prop}{a:ab}{bI:List (List Int×V)}{xs:List (List Int×ab×aa)}(h:∀b ks,U b ks->U' b ks)(r:DP U bI xs):DP U' bI xs:=Paired.aii r fun p q z=>⟨z.1,h _ _ z.2.1,z.2.2⟩
def amg(K:ah):afr:=fun o i v H Q=>∃(b d:ab) (ks:List Int) (U U':ab->List Int->Prop) (bI:List (List Int×V)),o=.ref d/\i=.ref b/\pB K H b (ks.map V.int)/\H d=some (.ext (oG U d bI))/\(∀b ks,U b ks->U' b ks)/\(∀b ks,U' b ks->UG K H b ks)/\U' b ks/\bI.length<=1000000 /\
 Q (upd H d (.ext (oG U' d (WL bI ks v))))
theorem adD(hu:X.A.units + 1 < bo):aiu X (amg X.K):=by
 intro pins s σ H o i v ov iv u Q I ro ri rv ⟨b,d,ks,U,U',bI,e1,e2,hb,hd,hm,hU,hk,hz,q⟩;subst e1;subst e2;cases ro;cases ri;obtain⟨xs,hx,hs,hp,_⟩:=Et I (YB hd) fun b ks z=>hU b ks (hm b ks z);refine wpAny_setItem_heap (rh hu) (wN I hb) hx (fun h' hx' sb=>?_) (by rw[<- Paired.length hp];exact sz6 hz);refine⟨_,I.write (x:=d) (e:=d) (t':=_) (by rw[hd];trivial) (.inl rfl) (fun b' u' ne e=>?_) ?_ (Zm hx' hs (adB (oG.mono (a:=d) hm hp) hk rv)),q⟩
 ·exact(sb.2 b' ne).symm▸e
 ·obtain⟨o,_,_,e,_⟩:=hx';exact⟨o,e⟩
theorem agh{pos:Pos}:PE X (.Dict [] [] pos) (fun _ H Q=>∀l,H l=none->Q (.ref l) (upd H l (.ext (oG (fun _ _=>False) l [])))):=by
 intro pins s σ H Q I h;have far:f7≠s.heap.objs.size:=fun z=>by have lt:=(I.mod.glob.keeps I.bk).lt;rw[<- z]at lt;exact absurd lt (by decide)
 refine wpAny_Dict_empty ⟨.ref s.heap.objs.size,_,I.laid (t':=s.toks) (fun b u e=>b0 _ e) (bj _) (Zm (.new s.heap) (by simpa using dm far) .nil),rfl,h _ I.fresh⟩
theorem agi{i:Nat}{x:Str}{pos pos' lp:Pos}(hN:X.N.Nodup)(hi:X.N[i]?=some x)(hx:Kw X.env.scope x)(hs:d6 (.Dict [] [] lp) (some (.Name x pos')) pos.line X.env=pure false:=by rfl)(hf:X.fn x=true∨X.env.scope.names.lookup x=some .local:=by first|exact .inl rfl|exact .inr rfl|assumption) :
  SS X B W (.Assign [.Name x pos'] (.Dict [] [] lp) pos) (fun ρ=>.nx (ρ.set i (.od []))):=by
 refine PS.imp (yj hN hi hx agh hs hf) fun De σ H ⟨ρ,G,s,p⟩=>fun l hl=>?_;exact p _ _ G (s.acj rfl ⟨_,[],rfl,fun _ _ z=>z.elim,.nil⟩ hl) (.refl _)
def qC:List D->Option (List Int)
 | []=>some []
 | .int i::ds=>(qC ds).map (i::·)
 |_::_=>none
def mq:D->Option (List Int)
 | .tup ds=>qC ds
 |_=>none
theorem Eu{K:ah}{G:Hp}:∀{ds:List D}{vs:List V}{ks:List Int},bL K G ds vs->qC ds=some ks->vs=ks.map V.int
 | [],vs,ks,r,e=>by cases e;exact bG.mp r
 |d::ds,vs,ks,r,e=>by
  obtain⟨v,vs',rfl,r1,r2⟩:=aQ.mp r;cases d with
  |int i =>
   simp only[qC]at e;cases e2:qC ds with
   |none=>rw[e2]at e;cases e
   |some js =>
    rw[e2]at e;cases e;rw[aM.mp r1,Eu r2 e2];rfl
  |_=>cases e
theorem Cy{K:ah}{G:Hp}{d:D}{v:V}{ks:List Int}(r:Rep K G d v)(e:mq d=some ks):∃b,v=.ref b/\pB K G b (ks.map V.int):=by
 cases d with
 |tup ds =>
  obtain⟨a,vs,rfl,h,rr⟩:=bw.mp r;exact⟨a,rfl,Eu rr e▸h⟩
 |_=>cases e
def bV(kvs:List (List Int×D))(ks:List Int):Option D:=(kvs.find? fun p=>decide (p.1=ks)).map (·.2)
def jh(kvs:List (List Int×D))(ks:List Int)(d:D):List (List Int×D):=if (bV kvs ks).isSome then kvs.map (fun p=>if p.1=ks then (p.1,d) else p) else kvs++[(ks,d)]
theorem eG.get{K:ah}{G:Hp}{ks:List Int}{kvs:List (List Int×D)}{bI:List (List Int×V)}(h:eG K G kvs bI):(bV kvs ks=none/\sH bI ks=none)∨∃d v,bV kvs ks=some d/\sH bI ks=some v/\Rep K G d v:=by
 induction h with
 |nil=>exact .inl ⟨rfl,rfl⟩
 | @cons k d v kvs bI r t ih =>
  by_cases c:k=ks
  ·exact .inr ⟨d,v,by simp[bV,eT,c],by simp[sH,eT,c],r⟩
  ·have e1:bV ((k,d)::kvs) ks=bV kvs ks:=by simp[bV,eT,c]
   have e2:sH ((k,v)::bI) ks=sH bI ks:=by simp[sH,eT,c]
   rw[e1,e2];exact ih
theorem eG.app{K:ah}{G:Hp}{k:List Int}{d:D}{v:V}{kvs:List (List Int×D)}{bI:List (List Int×V)}(h:eG K G kvs bI)(r:Rep K G d v):eG K G (kvs++[(k,d)]) (bI++[(k,v)]):=by
 induction h with
 |nil=>exact .cons r .nil
 |cons r1 _ ih=>exact .cons r1 ih
theorem eG.len{K:ah}{G:Hp}{kvs:List (List Int×D)}{bI:List (List Int×V)}(h:eG K G kvs bI):kvs.length=bI.length:=by
 induction h with
 |nil=>rfl
 |cons _ _ ih=>simp[ih]
theorem eG.put{K:ah}{G:Hp}{ks:List Int}{d:D}{v:V}{kvs:List (List Int×D)}{bI:List (List Int×V)}(h:eG K G kvs bI)(r:Rep K G d v):eG K G (jh kvs ks d) (WL bI ks v):=by
 rcases h.get (ks:=ks) with ⟨e1,e2⟩|⟨_,_,e1,e2,_⟩
 ·unfold jh WL;rw[e1,e2];exact h.app r
 ·unfold jh WL;rw[e1,e2];show eG K G (kvs.map _) (bI.map _);clear e1 e2
  induction h with
  |nil=>exact .nil
  | @cons k d' v' kvs bI r1 _ ih =>
   by_cases c:k=ks
   ·simpa[c] using eG.cons r ih
   ·simpa[c] using eG.cons r1 ih
theorem SR.od{K:ah}{σ:St}{H G:Hp}{ρ:au}(h:SR K B σ H ρ G){i:Nat}{kvs:List (List Int×D)}(q:ρ[i]?=some (.od kvs)) :
  ∃a U bI,σ[i]?=some (some (.ref a))/\H a=some (.ext (oG U a bI))/\G a=none/\B.2 a=none/\(∀b ks,U b ks->UG K G b ks)/\eG K G kvs bI:=by
 obtain⟨a,o,h1,h2,h3,h4,U,bI,rfl,h5,h6⟩:=h.own i _ q rfl;exact⟨a,U,bI,h1,h2,h3,h4,h5,h6⟩
end
section
variable{X:Cx}{B:Bs}{W:Wi}
theorem ajE(hu:X.A.units + 1 < bo):IxR X (adC X.K):=by
 intro value slice pins s σ H x y v u Q I rx ry h hs;obtain⟨b,d,ks,U,bI,v',e1,e2,hb,hd,hU,hv,q⟩:=id h;obtain⟨xs,hm,_,_,_⟩:=Et I hd hU;have ht:s.TypeIs v "dict":=by subst e1;cases rx;exact hm.typeIs
 exact PyProof.Rows.tail_any ht slot_dict_getitem.lookup (agg hu pins s σ H x y v u Q I rx ry h) hs
theorem WM{K:ah}{σ:St}{H G H' G':Hp}{ρ:au}{j:Nat}{kvs:List (List Int×D)}{k:D}{v:V}{ks:List Int}(s:SR K B σ H ρ G)(q:ρ[j]?=some (.od kvs))(y:Ext G H G' H')(r:Rep K G' k v)(e:mq k=some ks) :
  ∃b d U bI,v=.ref b/\σ[j]?=some (some (.ref d))/\pB K H' b (ks.map V.int)/\UG K G' b ks/\H' d=some (.ext (oG U d bI))/\(∀b ks,U b ks->UG K G' b ks)/\(∀b ks,UG K G' b ks->UG K H' b ks)/\eG K G' kvs bI:=by
 obtain⟨b,rfl,hb⟩:=Cy r e;obtain⟨d,U,bI,h1,h2,h3,h4,h5,h6⟩:=s.od q;exact⟨b,d,U,bI,rfl,h1,Same.gK y.gh hb,hb,y.hh _ _ h2,fun c js z=>Same.gK y.gg (h5 c js z),fun c js z=>Same.gK y.gh z,h6.mono y.gg⟩
def wO(j:Nat)(fe fk:au->Rs D):au->Ou:=fun ρ=>oR (fe ρ) ρ fun v=>match ρ[j]? with
 |some (.od kvs)=>oR (fk ρ) ρ fun k=>(match mq k with
  |some ks=>if kvs.length<=1000000 then .nx (ρ.set j (.od (jh kvs ks v))) else .no
  |none=>.no)
 |_=>.no
theorem agj{e b:ag}{x:Str}{p1 tp pos:Pos}{j:Nat}{fe fk:au->Rs D}(hu:X.A.units + 1 < bo)(he:SE X B W e fe)(hv:PE X (.Name x p1) (GD j))(hb:SE X B W b fk)
  (hs:ke [.Subscript (.Name x p1) b tp] e pos.line X.env=pure false:=by rfl) (hw:kg [.Subscript (.Name x p1) b tp] e X.env=pure none:=by rfl)
  (h1:(dy [.Subscript (.Name x p1) b tp] X.env).map (·.2)=[assign (.Subscript (.Name x p1) b tp) X.env]:=by rfl)
  (ha:∀v,assign (.Subscript (.Name x p1) b tp) X.env v=(do
   let ov <- du [v] (aS (.Name x p1) X.env)
   let iv <- du [v,ov] (aS b X.env)
   kd tp
   du [v,ov,iv] (setItem ov iv v)
   release [v,ov,iv] []):=by intro _;rfl) :
  SS X B W (.Assign [.Subscript (.Name x p1) b tp] e pos) (wO j fe fk):=by
 refine PS.imp (Kz he (Vz hv hb (adD hu) ha) hs hw h1) fun De σ H fV=>?_;obtain⟨ρ,G,s,p⟩:=fV;unfold wO at p;refine⟨ρ,G,s,iu s p fun d v H' G' _ y r p'=>?_⟩;cases e2:ρ[j]? with
 |none=>rw[e2]at p';exact p'.elim
 |some z =>
  rw[e2]at p';cases z with
  |od kvs =>
   have s':=s.ext y;obtain⟨d0,U0,adE,h1,h2,_⟩:=s'.od e2;refine⟨_,h1,ρ,G',s',iu s' p' fun k v2 H2 G2 _ y2 r2 p2=>?_⟩;cases e1:mq k with
   |none=>rw[e1]at p2;exact p2.elim
   |some ks =>
    rw[e1]at p2;dsimp only at p2;by_cases hl:kvs.length<=1000000
    ·rw[if_pos hl]at p2;obtain⟨b',d1,U,bI,rfl,q1,q2,q3,q4,q5,q6,q7⟩:=WM s' e2 y2 r2 e1;rw[h1]at q1;cases q1;refine⟨b',d0,ks,U,UG X.K G2,bI,rfl,rfl,q2,q4,q5,q6,q3,by rw[<- q7.len];exact hl,?_⟩;exact p2 σ _ G2 ((s'.ext y2).wj e2 rfl h1 rfl ⟨UG X.K G2,_,rfl,fun _ _ z=>z,q7.put (r.mono y2.gg)⟩) (.refl _)
    ·rw[if_neg hl]at p2;exact p2.elim
  |_=>exact p'.elim
def adF(K:ah):V->List V->Hp->VK->Prop:=fun x vs H Q=>∃(b d:ab) (w:V) (ks:List Int) (U:ab->List Int->Prop) (bI:List (List Int×V)),x=.ref d/\vs=[.ref b,w]/\pB K H b (ks.map V.int)/\Ac H d U bI/\(∀b ks,U b ks->UG K H b ks)/\Q ((sH bI ks).getD w) H
theorem Zn(hu:X.A.units + 1 < bo):MtR X "dict.get" (adF X.K):=by
 intro pins s σ H x vs v us Q I rx rv ⟨b,d,w,ks,U,bI,e1,e2,hb,hd,hU,q⟩;subst e1;subst e2;cases rx;cases rv with
 |cons r1 rv =>
  cases rv with
  |cons r2 rv =>
   cases rv;cases r1;obtain⟨xs,hm,hs,hp,_⟩:=Et I hd hU;refine call_meetsIn ve hm.typeIs F.entry_dict_get (F.args_dict_get_3 _ _ _) (meetsH_dict_get_default (mS (cb X.prog X.w)) d b hs _) ⟨rh hu,ks,xs,wN I hb,hm,?_⟩;refine⟨_,H,I.tok _,?_,q⟩;rcases sI (ks:=ks) hp with ⟨w1,w2⟩|⟨v',q',w1,w2,w3⟩
   ·rw[w1,w2];exact r2
   ·rw[w1,w2];exact w3
def Ew(j:Nat)(fs:au->Rs (List D)):au->Rs D:=fun ρ=>match ρ[j]? with
 |some (.od kvs)=>(fs ρ).bind fun es=>match es with
  | [k,w]=>(match mq k with|some ks=>.ok ((bV kvs ks).getD w)|none=>.no)
  |_=>.no
 |_=>.no
theorem agk{k d:ag}{x:Str}{p1 p2 cp:Pos}{j:Nat}{fs:au->Rs (List D)}(hu:X.A.units + 1 < bo)(hv:PE X (.Name x p1) (GD j))(ha:SA X B W [k,d] fs)
  (h1:ku (.Name x p1) "get" X.env (aS (.Name x p1) X.env)=aS (.Name x p1) X.env:=by rfl) (h2:a9 [k,d] X.env=[(false,aS k X.env),(false,aS d X.env)]:=by rfl)
  (h3:((c6 cp (a9 [k,d] X.env)).all (fun q=>!q.1) && (ik cp (il [] X.env)).all (fun q=>q.1.isSome) && decide (([k,d]:List ag).length + 0 + 0 < 30))=true:=by rfl)
  (h4:(p2.endLine == cp.line)=true:=by rfl) (h5:((c6 cp (a9 [k,d] X.env)).any fun q=>q.1)=false:=by rfl) :
  SE X B W (.Call (.Attribute (.Name x p1) "get" p2) [k,d] [] cp) (Ew j fs):=by
 intro pins s σ H Q I ⟨ρ,G,sr,p⟩;unfold Ew at p;cases e2:ρ[j]? with
 |none=>rw[e2]at p;exact p.elim
 |some z =>
  rw[e2]at p;cases z with
  |od kvs =>
   obtain⟨d0,U0,adE,g1,g2,_⟩:=sr.od e2;refine sk h1 h3 h4 rfl (jD (hv pins s σ H (fun y H1=>y=.ref d0/\H1=H) I ⟨_,g1,rfl,rfl⟩) fun v s1 fV=>?_);obtain⟨y,H1,I1,r1,hy,hH⟩:=fV;subst hy;subst hH;cases r1;obtain⟨⟨o',es',ep',xs',w1,w2,_⟩,_,_⟩:=(show fD X.prog X.w H1 s1.heap d0 (.ext (oG U0 d0 adE)) from I1.hok d0 _ g2)
   refine⟨"dict","dict.get",F.plainAttrs_dict,ve,F.type_dict_get,⟨o',w1,w2.1⟩,fun a ea=>?_,?_⟩
   ·cases ea;exact⟨o',w1,w2.2.1⟩
   have p':Post X.K W σ G H1 ((fs ρ).bind fun es=>match es with
     | [k,w]=>(match mq k with|some ks=>.ok ((bV kvs ks).getD w)|none=>.no)
     |_=>.no) Q:=p
   have hA:=ha cp pins s1 σ H1 (fun vs H2=>adF X.K (.ref d0) vs H2 Q) I1 ⟨ρ,G,sr,?_⟩
   ·rw[h2]at hA h5 ⊢;refine sm h5 (sq ?_);exact jD hA fun us s2 ⟨vs,H2,I2,r2,q2⟩=>Zn hu pins s2 σ H2 (.ref d0) vs (.ref d0) us Q I2 rfl r2 q2
   ·cases e:fs ρ with
    |no=>rw[e]at p';exact p'.elim
    |ex c n=>rw[e]at p';exact p'
    |ok es =>
     rw[e]at p';intro vs H' G' y r
     match es,p',r with
     | [],p',r=>exact p'.elim
     | [_],p',r=>exact p'.elim
     |_::_::_::_,p',r=>exact p'.elim
     | [k,w],p',r =>
      obtain⟨v1,vs1,rfl,r1,r2⟩:=aQ.mp r;obtain⟨v2,vs2,rfl,r3,r4⟩:=aQ.mp r2;cases bG.mp r4;have p3:Post X.K W σ G H1 (match mq k with|some ks=>.ok ((bV kvs ks).getD w)|none=>.no) Q:=p';cases e1:mq k with
      |none=>rw[e1]at p3;exact p3.elim
      |some ks =>
       rw[e1]at p3;dsimp only at p3;obtain⟨b',d1,U,bI,rfl,q1,q2,q3,q4,q5,q6,q7⟩:=WM sr e2 y r1 e1;rw[g1]at q1;cases q1;refine⟨b',d0,v2,ks,U,bI,rfl,rfl,q2,YB q4,fun c js z=>q6 c js (q5 c js z),?_⟩;rcases q7.get (ks:=ks) with ⟨w1,w2⟩|⟨dd,vv,w1,w2,w3⟩
       ·rw[w2];rw[w1]at p3;exact p3 v2 H' G' y r3
       ·rw[w2];rw[w1]at p3;exact p3 vv H' G' y w3
  |_=>exact p.elim
end
section
variable{X:Cx}{B:Bs}{W:Wi}
theorem RL{M:Model}{A:a8}{E:aa->ae->Prop}{s:ae}{v u:aa}{Q:aa->ae->Prop}(h:ai M A (eR .In v u) (fun r s'=>∃c,r=.bool c/\Q (.bool (!c)) s') E s) :
  ai M A (eR .NotIn v u) Q E s:=by
 have h':ai M A (contains u v >>= fun b=>pure (aa.bool b)) (fun r s'=>∃c,r=aa.bool c/\Q (.bool (!c)) s') E s:=h;show ai M A (contains u v >>= fun b=>pure (aa.bool (!b))) Q E s;intro Γ p hΓ;have h2:=h' Γ p hΓ;simp only[Sem.wp_bind',Sem.wp_pure']at h2 ⊢;refine Sem.wp_mono M Γ _ (fun b p1 s1 z=>?_) (fun _ _ _ z=>z) _ _ h2;obtain⟨c,e,q⟩:=z;cases e;exact q
def adG(K:ah):R2:=fun x y H Q=>Zj K x y H fun z H'=>∃c,z=.bl c/\Q (.bl (!c)) H'
theorem adH(hu:X.A.units + 1 < bo):uL X (eR .NotIn) (adG X.K):=by intro pins s σ H x y v u Q I rx ry h;refine RL (dQ (Zk hu pins s σ H x y v u _ I rx ry h) (fun r s' ⟨z,H',I',rz,c,e,q⟩=>?_) fun _ _ e=>e);subst e;cases rz;exact⟨c,rfl,V.bl (!c),H',I',rfl,q⟩
end
def aaL(i:Nat):au->Ou:=fun ρ=>.nx (ρ.set i (.od []))
section
variable{X:Cx}{B:Bs}{W:Wi}
theorem Ey(i:Nat){x:Str}{pos pos' lp:Pos}(hN:X.N.Nodup)(hi:X.N[i]?=some x:=by rfl)(hx:Kw X.env.scope x:=by first|exact Or.inl rfl|exact Or.inr rfl)(hs:d6 (.Dict [] [] lp) (some (.Name x pos')) pos.line X.env=pure false:=by rfl)(hf:X.fn x=true∨X.env.scope.names.lookup x=some .local:=by first|exact .inl rfl|exact .inr rfl|assumption) :
  SS X B W (.Assign [.Name x pos'] (.Dict [] [] lp) pos) (aaL i):=agi hN hi hx hs hf
theorem Ez(h:X.A.units + 8 < bo):X.A.units + 1 < bo:=by lia
theorem Zo(j:Nat) {k d:ag}{x:Str}{p1 p2 cp:Pos}{fs:au->Rs (List D)}(hu:X.A.units + 8 < bo) (ha:SA X B W [k,d] fs) (hN:X.N[j]?=some x:=by rfl) (hv:Kv X.env.scope x:=by first|exact Or.inl rfl|exact Or.inr (Or.inl rfl)|exact Or.inr (Or.inr rfl)) (hd:(x == ("__debug__":Str))=false:=by decide)
  (hcd:(x == ("__classdict__":Str))=false:=by decide)
  (h1:ku (.Name x p1) "get" X.env (aS (.Name x p1) X.env)=aS (.Name x p1) X.env:=by rfl) (h2:a9 [k,d] X.env=[(false,aS k X.env),(false,aS d X.env)]:=by rfl)
  (h3:((c6 cp (a9 [k,d] X.env)).all (fun q=>!q.1) && (ik cp (il [] X.env)).all (fun q=>q.1.isSome) && decide (([k,d]:List ag).length + 0 + 0 < 30))=true:=by rfl)
  (h4:(p2.endLine == cp.line)=true:=by rfl) (h5:((c6 cp (a9 [k,d] X.env)).any fun q=>q.1)=false:=by rfl) :
  SE X B W (.Call (.Attribute (.Name x p1) "get" p2) [k,d] [] cp) (Ew j fs):=agk (Ez hu) (gO hN hv hd hcd) ha h1 h2 h3 h4 h5
theorem Cz(j:Nat) {e b:ag}{x:Str}{p1 tp pos:Pos}{fe fk:au->Rs D}(hu:X.A.units + 8 < bo) (he:SE X B W e fe) (hb:SE X B W b fk) (hN:X.N[j]?=some x:=by rfl) (hv:Kv X.env.scope x:=by first|exact Or.inl rfl|exact Or.inr (Or.inl rfl)|exact Or.inr (Or.inr rfl)) (hd:(x == ("__debug__":Str))=false:=by decide)
  (hcd:(x == ("__classdict__":Str))=false:=by decide)
  (hs:ke [.Subscript (.Name x p1) b tp] e pos.line X.env=pure false:=by rfl) (hw:kg [.Subscript (.Name x p1) b tp] e X.env=pure none:=by rfl)
  (h1:(dy [.Subscript (.Name x p1) b tp] X.env).map (·.2)=[assign (.Subscript (.Name x p1) b tp) X.env]:=by rfl)
  (ha:∀v,assign (.Subscript (.Name x p1) b tp) X.env v=(do
   let ov <- du [v] (aS (.Name x p1) X.env)
   let iv <- du [v,ov] (aS b X.env)
   kd tp
   du [v,ov,iv] (setItem ov iv v)
   release [v,ov,iv] []):=by intro _;rfl) :
  SS X B W (.Assign [.Subscript (.Name x p1) b tp] e pos) (wO j fe fk):=agj (Ez hu) he (gO hN hv hd hcd) hb hs hw h1 ha
end
section
variable{X:Cx}{K:ah}{B:Bs}{W:Wi}{σ:St}{G H:Hp}{ρ:au}{a b c:ag}{pos:Pos}{fa fb fc:au->Rs D}
end
section
variable{X:Cx}{B:Bs}{W:Wi}
end
end Vl
namespace L2
open PySem PySem.Spec PyProof.Rows
section
variable{X:Cx}{pins:List (ab×Obj)}{σ:List (Option V)}{H:Hp}{s:ae}{h':Heap}
theorem Inv.uq{t':Nat}{ch:List ab}(I:Inv X pins σ H s)(k:∀b u,b∉ch->s.heap.get? b=some u->h'.get? b=some u)(hf:∀b∈ch,pZ X pins H b):Inv X pins σ H { s with heap:=h',toks:=t' }:=by
 have nch:∀b u,H b=some u->b∉ch:=fun b u e z=>by rw[(hf b z).1]at e;cases e
 refine I.step (g':=s.gens) (d':=s.drawn) (ch:=ch) (fun b hb=>⟨(hf b hb).2.2.2.1,(hf b hb).2.1,(hf b hb).2.2.2.2.1,(hf b hb).2.2.2.2.2⟩) (fun b o _ _ hc e _=>k b o hc e) (fun b o _ _ hc e _=>⟨o.slots,k b o hc e⟩) (fun _ _ _ _ n=>n)
  (fun b o hc e=>⟨o,k b o hc e⟩) (fun _ _ e=>e) (fun _ _ _ e=>e) (fun b ps e=>⟨#[],by rw[e];simp⟩) (fun m hm=>?_) (fun b u e=>?_) I.bare
 ·obtain⟨o,es,ep,ho,r⟩:=hm;exact⟨o,es,ep,k _ o (fun z=>(hf _ z).2.1 rfl) ho,r⟩
 ·refine(I.hok b u e).stay (fun c v hc q=>k c v ?_ q) (fun _ q=>q) (fun _ _ q=>q) fun _ _ q=>q;rcases hc with z|z
  ·rw[z];exact nch b u e
  ·exact nch c _ z
end
section
variable{X:Cx}
end
end L2
namespace Vl
open PySem PySem.Spec L2
section
variable{X:Cx}{B:Bs}{W:Wi}
end
end Vl
namespace PySem
namespace Vw
theorem aaM:Slot "reversed" "__init__" "object.__init__" :=
 .of (owner:="object") (n:="__init__") (by rw[md,me];kernel_rfl) (by decide+kernel) (by decide+kernel) (by decide+kernel)
  (by first|exact .inl (by decide+kernel)|exact .inr (by decide+kernel)) (by rw[iF];kernel_rfl)
theorem called:TypeCalled "reversed" "reversed.__new__" "object.__init__" :=
 ⟨by decide+kernel,by decide+kernel,⟨_,_,F.mro_reversed⟩,F.made_reversed,by decide+kernel,by rw[iF];kernel_rfl,aaM⟩
theorem slot_next:Slot "reversed" "__next__" "reversed.__next__" :=
 .of (owner:="reversed") (n:="__next__") (by rw[md,me];kernel_rfl) (by decide+kernel) (by decide+kernel) (by decide+kernel)
  (by first|exact .inl (by decide+kernel)|exact .inr (by decide+kernel)) (by rw[iF];kernel_rfl)
theorem entry_next:n6 table "reversed.__next__"=some Builtin.«reversed.__next__»:=entryFor_of_tree (by kernel_rfl)
theorem args_next(a:aa):iL "reversed.__next__" ⟨[a],[]⟩:=by unfold iL;kernel_rfl
theorem JM:Slot "reversed" "__iter__" "reversed.__iter__" :=
 .of (owner:="reversed") (n:="__iter__") (by rw[md,me];kernel_rfl) (by decide+kernel) (by decide+kernel) (by decide+kernel)
  (by first|exact .inl (by decide+kernel)|exact .inr (by decide+kernel)) (by rw[iF];kernel_rfl)
theorem aaN(a:aa):iL "reversed.__iter__" ⟨[a],[]⟩:=by unfold iL;kernel_rfl
theorem WQ:n6 table "reversed.__iter__"=some Builtin.«dict_keyiterator.__iter__» :=
 ue (id':="dict_keyiterator.__iter__") (by kernel_rfl) (by first|rfl|decide+kernel|(unfold String.splitOn;simp+decide [String.splitOnAux])) (by decide+kernel) (by kernel_rfl)
theorem ajF:typeLookup (.type "tuple") "__reversed__"=pure none:=by rw[md,me];kernel_rfl
end Vw
section
variable{prog:aE}{w:ay}{A:a8}{E:aa->ae->Prop}{s:ae}
def Zq(t:ab)(i:Int):Obj:={ cls:=.type "reversed",data:=.fields #[.ref t,cn i] }
abbrev Heap.uQ(h:Heap)(a t:ab)(i:Int):Prop:=h.get? a=some { cls:=.type "reversed",dict:=none,data:=.fields #[.ref t,cn i],slots:=#[] }
theorem ji{a t:ab}{i:Int}(x:s.heap.uQ a t i):s.TypeIs (.ref a) "reversed":=⟨_,x,rfl⟩
theorem uJ(t:ab)(items:Array aa):Meets (Builtin.«reversed.__new__» ⟨[.type "reversed",.ref t],[]⟩)
  (fun _ R s=>vi s.heap t items/\(items.size:Int) < 2 ^ 63/\∀tk,R (.ok (.ret (.ref s.heap.objs.size))) { s with heap:=s.heap.push (Zq t ((items.size:Int) - 1)),toks:=tk }) :=
 .of_wp fun prog w A R s h=>by
  obtain⟨ht,hfit,h⟩:=h;unfold Builtin.«reversed.__new__»;refine af (iE (newClass_reversed _) ?_)
  try dsimp only
  refine af (iE (a:=()) (by first|rfl|kernel_rfl) ?_);refine af (iE (a:=()) (by first|rfl|kernel_rfl) ?_)
  try dsimp only
  refine af (l8 ht.typeIs Vw.ajF ?_)
  try dsimp only
  refine af ?_
  wp_delta
  refine af (mo (T:="tuple") (b:=false) ht.typeIs (by rw[iF];kernel_rfl) ?_)
  try dsimp only
  try simp only[bq,if_false]
  refine af (l8 ht.typeIs PyProof.Rows.slot_tuple_getitem.lookup ?_)
  try dsimp only
  rw[if_pos (by decide)];refine az ?_
  try simp only[eC,bq,if_false]
  refine af (PyProof.Rows.len_tuple ht hfit ?_);refine af (m:=asInt? _) (az ?_)
  try dsimp only
  refine af ?_;show ai _ _ (newObj (.type "reversed") (.fields #[.ref t,cn ((items.size:Int) - 1)])) _ _ _;exact fN (az ⟨_,rfl,h _⟩)
theorem uK{t:ab}{items:Array aa}{Q:aa->ae->Prop}(ht:vi s.heap t items)(hfit:(items.size:Int) < 2 ^ 63)
  (h:∀tk,Q (.ref s.heap.objs.size) { s with heap:=s.heap.push (Zq t ((items.size:Int) - 1)),toks:=tk }):ai (ar prog w) A (call (.type "reversed") [.ref t]) Q E s:=by
 refine callType_new Vw.called (by decide) (F.typeCall_reversed_1 _) (F.newCall_reversed_1 _) (fun obj=>F.args_object_init_2 obj _) F.entry_reversed_new (uJ t items) ⟨ht,hfit,fun tk=>?_⟩;exact⟨⟨_,cy _ rfl,rfl⟩,h tk⟩
theorem pK{it t:ab}{i:Int}{Q:aa->ae->Prop}(hit:s.heap.uQ it t i)(h:Q (.ref it) s):ai (ar prog w) A (i_ (.ref it)) Q E s:=by refine qk (ji hit) Vw.JM (g9 Vw.JM (ji hit) Vw.WQ ?_ (Vw.aaN _));show ai _ _ (ret (.ref it)) _ _ s;exact az ⟨_,rfl,"reversed",_,(ji hit),Vw.slot_next.lookup,h⟩
theorem rJ{it t:ab}{i:Nat}{items:Array aa}{x:aa}{Q:Option aa->ae->Prop}(hit:s.heap.uQ it t (i:Int))(ht:vi s.heap t items)(hi:(items.size:Int) < 2 ^ 63)(hx:items[i]?=some x)
  (hQ:∀h' tk,h'.uQ it t ((i:Int) - 1)->et it s.heap h'->Q (some x) { s with heap:=h',toks:=tk }):ai (ar prog w) A (dS (.ref it)) Q E s:=by
 have hlt:i < items.size:=by have:=(gT.mp hx).1;exact this
 unfold dS;refine af (j8 (mf (name:=mh "__next__") (ji hit) Vw.slot_next
  (g9 Vw.slot_next (ji hit) Vw.entry_next ?_ (Vw.args_next _))))
 unfold Builtin.«reversed.__next__»;refine af (iE (a:=(aa.ref it,[])) rfl ?_)
 try dsimp only
 refine af (oy hit rfl (x:=.ref t) rfl ?_);refine af (oy hit rfl (x:=cn (i:Int)) rfl ?_);show ai _ _ (if (i:Int) < 0 then _ else _) _ _ s;rw[if_neg (by lia)];refine af (l8 ht.typeIs PyProof.Rows.slot_tuple_getitem.lookup ?_)
 try dsimp only
 rw[if_neg (by simp)];refine af (wpAny_mkInt ?_);refine af (j8 (PyProof.Rows.getItem_tuple (j:=i) ht (by lia) (by lia) (by simp[nh];lia) hx ?_))
 try dsimp only
 refine af (oy hit rfl (x:=cn (i:Int)) rfl ?_)
 try dsimp only
 refine af (vk hit (by simp) fun h' he' hs'=>?_);exact az ⟨x,rfl,az (hQ h' _ he' hs')⟩
theorem sJ{it t:ab}{Q:Option aa->ae->Prop}(hh:A.handled=none)(hit:s.heap.uQ it t (-1))
  (hQ:∀h',qr it s.heap h'->Q none { s with heap:=h' }):ai (ar prog w) A (dS (.ref it)) Q E s:=by
 unfold dS;refine af (j8 (mf (name:=mh "__next__") (ji hit) Vw.slot_next
  (g9 Vw.slot_next (ji hit) Vw.entry_next ?_ (Vw.args_next _))))
 unfold Builtin.«reversed.__next__»;refine af (iE (a:=(aa.ref it,[])) rfl ?_)
 try dsimp only
 refine af (oy hit rfl (x:=.ref t) rfl ?_);refine af (oy hit rfl (x:=cn (-1)) rfl ?_);show ai _ _ (if (-1:Int) < 0 then _ else _) _ _ s;rw[if_pos (by decide)];refine af (g_ ?_);refine af ?_
 wp_delta
 refine af (vk hit (by simp) fun h1 he1 hs1=>?_);refine vk he1 (by simp) fun h2 he2 hs2=>?_;have x2:qr it s.heap h2:=fun b o hb e=>hs2.extBut b o hb (hs1.extBut b o hb e)
 first
 |show ai _ _ (newExc (.type "StopIteration") [] >>= _) _ _ _
 | (refine af ?_;show ai _ _ (newExc (.type "StopIteration") [] >>= _) _ _ _)
 refine af ?_;simp only[newExc,newTuple];refine af (fN ?_ (by size_fits));refine af (m:=ml _ _) (iE (a:=aa.none) (by first|rfl|(simp only[ml];rfl)) ?_);refine fN ?_ (by size_fits);simp only[raiseNew];refine af (uv ?_)
 first|rw[show A.in1.handled=none from hh]|rw[hh]
 refine af (az (uA ?_));refine af (mo (T:="StopIteration") (b:=true) ⟨_,cy _ rfl,rfl⟩ uB ?_);exact az (hQ _ ((x2.push _).push _))
end
end PySem
namespace PySem
open PyProof.Rows (IsTup)
section
variable{prog:aE}{w:ay}{A:a8}{E:aa->ae->Prop}{s:ae}
end
section
variable{prog:aE}{w:ay}{A:a8}{E:aa->ae->Prop}{s:ae}
end
end PySem
namespace Vl
open PySem PySem.Spec L2
section
variable{X:Cx}{B:Bs}{W:Wi}{K:ah}
theorem RM{G:Hp}:∀{ds:List D}{vs:List V},bL K G ds vs->bL K G ds.reverse vs.reverse
 | [],_,h=>by rw[bG.mp h];exact bG.mpr rfl
 |d::ds,_,h=>by obtain⟨v,vs',rfl,h1,h2⟩:=aQ.mp h;rw[vl,vl];exact(RM h2).append (bL.one h1)
end
end Vl
namespace Vl
open PySem PySem.Spec PySem.Calls PySem.W L2
structure aro (K:ah)(x:Str)(st:be)(f:ab)(fd:b9)(ps:List Str):Prop where
 ex:∃(oc:aa) (od:Option ab) (dV kV doc pm:aa) (an:Option ab) (cdv ct:aa) (osl:Array (Option aa)),
  fd=eJ x x (bJ st) (bC st) (aD st) dV kV doc pm an cdv ct/\K.lookup f=some ⟨oc,od,.func fd,osl⟩/\k8 K cdv x=true
 kp:f_ K (.ref f)=true
 bi:Binds K fd ps []
end Vl
namespace Vl
open PySem PySem.Spec L2
section
variable{X:Cx}{K:ah}{B:Bs}{W:Wi}{σ:St}{G H:Hp}{ρ:au}{a b c:ag}{pos:Pos}{fa fb fc:au->Rs D}
end
section
variable{X:Cx}{B:Bs}{W:Wi}
end
end Vl
namespace Dk
open PySem PySem.Spec
section
variable{prog:aE}{w:ay}{A:a8}{E:aa->ae->Prop}{s:ae}{d it:ab}{es:Array kv}{ep:Nat}
def pL(h:Heap)(d:ab)(es:Array kv)(ep:Nat):Prop:=∃o,h.get? d=some o/\o.ExactDict/\o.data=.dict es ep
theorem pL.ty(x:pL s.heap d es ep):s.TypeIs (.ref d) "dict":=let ⟨o,ho,hc,_⟩:=x;⟨o,ho,hc.1⟩
theorem pL.go{h h':Heap}(x:pL h d es ep)(e:∀o,h.get? d=some o->h'.get? d=some o):pL h' d es ep:=let ⟨o,ho,r⟩:=x;⟨o,e o ho,r⟩
def kit(d:ab)(i n ep:Nat):Obj:={ cls:=.type "dict_keyiterator",data:=.fields #[.ref d,.int i 0,.int n 0,.int ep 0] }
theorem kit_is{h:Heap}{i n:Nat}(e:h.get? it=some (kit d i n ep)):h.IsKeyIter it d i n ep:=⟨_,e,rfl,rfl⟩
theorem adI{Q:aa->ae->Prop}(hd:(d == f7)=false)(hm:pL s.heap d es ep)(hQ:Q (.ref s.heap.objs.size) { s with heap:=s.heap.push (kit d 0 es.size ep) }):ai (ar prog w) A (i_ (.ref d)) Q E s:=by obtain⟨o,ho,hc,hdat⟩:=id hm;refine qk hm.ty F.slot_dict_iter (g9 F.slot_dict_iter hm.ty F.entry_dict_iter ?_ (F.args_dict_iter_1 _));unfold Builtin.«dict.__iter__» cq.Dict.dictSlotNone;refine af (af (wpAny_notOrdered_dict hm.ty ?_));show ai _ _ (pure (aa.ref d)) _ _ s;refine az ?_;show ai _ _ (cq.Dict.showsAll d >>= _) _ _ s;unfold cq.Dict.showsAll;rw[if_neg (by rw[hd];exact sL)];refine af (az (af (vn ho hdat (af (vt ho hdat ?_)))));exact af (fN (az ⟨_,rfl,"dict_keyiterator",_,⟨_,cy _ rfl,rfl⟩,oz.lookup,hQ⟩))
theorem ahP{i:Nat}{Q:Option aa->ae->Prop}(hit:s.heap.IsKeyIter it d i es.size ep)(hm:pL s.heap d es ep)(hx:i < es.size)
  (hQ:∀h',h'.IsKeyIter it d (i + 1) es.size ep->et it s.heap h'->Q (some es[i].key) { s with heap:=h' }):ai (ar prog w) A (dS (.ref it)) Q E s:=by
 obtain⟨o,ho,hc,hd⟩:=id hit;obtain⟨od,hod,hcd,hdd⟩:=id hm;unfold dS;refine af (j8 (mf (name:=mh "__next__") hit.typeIs oz (g9 oz hit.typeIs F.entry_dict_keyiterator_next ?_ (F.args_dict_keyiterator_next_1 _))));refine af (az (af (af (af ?_))))
 first|refine rn hit.typeIs (az ?_)|refine rL hit.typeIs (az ?_)
 refine af (qo ho hd ?_);simp only[show cq.Dict_items.ownsTuple "dict_keyiterator"=false by decide,bq,if_false];show ai _ _ (if (aa.ref d == aa.none)=true then _ else _) _ _ s;rw[if_neg (by intro z;cases z)];refine af (az (af (vn hod hdd ?_)));rw[if_neg (by simp)];refine af (az (af (vt hod hdd ?_)));rw[if_neg (by simp)];refine az ?_;simp only[show ¬((i:Int) < 0) from by lia,if_false,kA,kF hx];refine af (af ?_)
 first|refine rn hit.typeIs (az ?_)|refine rL hit.typeIs (az ?_)
 refine af (wpAny_isOneOf_keyiter hit.typeIs ?_);show ai _ _ (setField (.ref it) 1 (cn ((i:Int) + 1)) >>= _) _ _ s;refine af (n8 ho hd (by simp) ?_);have hit':(s.heap.update it (n9 (·.setIfInBounds 1 (cn ((i:Int) + 1))))).IsKeyIter it d (i + 1) es.size ep :=
  ⟨_,fg _ ho (uk (qq hd _)),(Obj.cls_mapFields ..).trans hc,by rw[qq hd];simp[cn]⟩
 refine af (ez (af ?_));refine wpAny_isOneOf_keyiter (s:={ s with heap:=s.heap.update it (n9 (·.setIfInBounds 1 (cn ((i:Int) + 1)))) }) hit'.typeIs ?_;show ai _ _ (pure es[i].key) _ _ _;exact az (az ⟨_,rfl,az (hQ _ hit' (l9 ..))⟩)
theorem amh{Q:Option aa->ae->Prop}(hh:A.handled=none)(hit:s.heap.IsKeyIter it d es.size es.size ep)(hm:pL s.heap d es ep)
  (hQ:∀h',qr it s.heap h'->Q none { s with heap:=h' }):ai (ar prog w) A (dS (.ref it)) Q E s:=by
 obtain⟨o,ho,hc,hd⟩:=id hit;obtain⟨od,hod,hcd,hdd⟩:=id hm;unfold dS;refine af (j8 (mf (name:=mh "__next__") hit.typeIs oz (g9 oz hit.typeIs F.entry_dict_keyiterator_next ?_ (F.args_dict_keyiterator_next_1 _))));refine af (az (af (af (af ?_))))
 first|refine rn hit.typeIs (az ?_)|refine rL hit.typeIs (az ?_)
 refine af (qo ho hd ?_);simp only[show cq.Dict_items.ownsTuple "dict_keyiterator"=false by decide,bq,if_false];show ai _ _ (if (aa.ref d == aa.none)=true then _ else _) _ _ s;rw[if_neg (by intro z;cases z)];refine af (az (af (vn hod hdd ?_)));rw[if_neg (by simp)];refine af (az (af (vt hod hdd ?_)));rw[if_neg (by simp)];refine az ?_;simp only[show ¬((es.size:Int) < 0) from by lia,if_false,kA,qs (bj _)];refine af (af ?_)
 first|refine rn hit.typeIs (az ?_)|refine rL hit.typeIs (az ?_)
 show ai _ _ (setField (.ref it) 0 .none >>= _) _ _ s;refine af (n8 ho hd (by simp) ?_);show ai _ _ (newExc (.type "StopIteration") [] >>= _) _ _ _;refine af ?_;simp only[newExc,newTuple];refine af (fN ?_ (by size_fits));refine af (m:=ml _ _) (iE (a:=aa.none) (by first|rfl|(simp only[ml];rfl)) ?_);refine fN ?_ (by size_fits);simp only[raiseNew];refine af (uv ?_);rw[show A.in1.handled=none from hh];refine af (az (uA ?_));refine af (mo (T:="StopIteration") (b:=true) ⟨_,cy _ rfl,rfl⟩ uB ?_);exact az (hQ _ (((l9 ..).extBut.push _).push _))
theorem adJ(hh:A.handled=none)(hne:d≠it) :
  Walks prog w A it [it,d] [it] es.size (fun i v=>∃e,es[i]?=some e/\v=e.key) (fun i h=>h.IsKeyIter it d i es.size ep/\pL h d es ep) where
 sub:=fun b hb=>by simp at hb;simp[hb]
 frame:=fun _ _ _ st hk=>⟨st.1.at fun o e=>hk it (by simp) o e,st.2.go fun o e=>hk d (by simp) o e⟩
 item:=fun i s Q E hi st hQ=>ahP st.1 st.2 hi fun h' hI hs=>hQ _ h' s.toks ⟨_,kF hi,rfl⟩ ⟨hI,st.2.go fun o e=>(hs.2 d hne).trans e⟩ fun b o hb e=>(hs.2 b (fun z=>hb (by simp[z]))).trans e
 done:=fun s Q E st hQ=>amh hh st.1 st.2 fun h' he=>hQ h' s.toks fun b o hb e=>he b o (fun z=>hb (by simp[z])) e
 self:=fun _ _ _ _ st hQ=>wpAny_pyIter_keyiter st.1 hQ
theorem ahQ{Q:Bool->ae->Prop}(hm:pL s.heap d es ep)(h:Q false s):ai (ar prog w) A (qv (.ref d)) Q E s:=by
 unfold qv;refine af (l8 hm.ty F.slot_dict_len.lookup ?_);have e1:splitId "dict.__len__"=some ("dict","__len__"):=by kernel_rfl
 simp only[e1];refine af (mo (b:=true) hm.ty (by rw[iF];kernel_rfl) ?_);simp only[eC,bq,if_false];have pick:∀{c:Bool}{x y:Sem Bool},c=true->ai (ar prog w) A x Q E s->ai (ar prog w) A (if c=true then x else y) Q E s:=fun {c x y} hc hy=>by rw[hc];exact hy
 refine pick (by decide+kernel) ?_;exact af (l5 hm.ty (az h))
abbrev cG:Obj:=Tb.cG
theorem adK{D:ab}{Q:List aa->ae->Prop}(hh:A.handled=none)(hd:(D == f7)=false)(ho:pL s.heap D es ep)(hn:es.size<=1000)
  (hQ:∀h' tk,(∀b o,s.heap.get? b=some o->h'.get? b=some o)->s.heap.objs.size<=h'.objs.size->Q (es.toList.map (·.key)) { s with heap:=h',toks:=tk }):ai (ar prog w) A (collect (.ref D)) Q E s:=by
 have su:D < s.heap.objs.size:=by obtain⟨o,e,_⟩:=id ho;exact bg e
 unfold collect;refine af (qh (g8 F.entry_proto_collect ?_));rw[iA F.plain_proto_collect _];show ai _ A.in1 (newList [] >>= fun l=>again (.builtin "list.__iadd__" ⟨[l,.ref D],[]⟩)) _ _ s;refine af (fN ?_);refine az ⟨gu qA _,g8 F.entry_list_iadd ?_⟩;rw[iA qA _];have p1:∀b o,s.heap.get? b=some o->(s.heap.push cG).get? b=some o:=fun b o e=>b0 _ e;have hD1:pL (s.heap.push cG) D es ep:=ho.go fun o e=>p1 _ _ e;have hS1:(s.heap.push cG).get? s.heap.objs.size=some cG:=cy _ rfl;show ai _ A.in1 (j9 (.ref s.heap.objs.size) (.ref D) (.ref s.heap.objs.size)) _ _ _;unfold j9;have hT:tJ { s with heap:=s.heap.push cG } (.ref D) "dict":=pL.ty (s:={ s with heap:=s.heap.push cG }) hD1;refine af (l5 hT ?_);have k1:mv (.ref s.heap.objs.size) (.ref D)=false:=by simp[mv];exact kX su
 have k2:(aa.type "dict" == aa.type "list")=false:=by decide
 have k3:(aa.type "dict" == aa.type "tuple")=false:=by decide
 simp only[k1,k2,k3,qa,bq,if_false];refine af (adI hd hD1 ?_);have p2:∀b o,(s.heap.push cG).get? b=some o->((s.heap.push cG).push (kit D 0 es.size ep)).get? b=some o:=fun b o e=>b0 _ e;have hD2:pL ((s.heap.push cG).push (kit D 0 es.size ep)) D es ep:=hD1.go fun o e=>p2 _ _ e;have hS2:=p2 _ _ hS1;have hI2:((s.heap.push cG).push (kit D 0 es.size ep)).get? (s.heap.push cG).objs.size=some (kit D 0 es.size ep):=cy _ rfl;have LK:(s.heap.push cG).objs.size=s.heap.objs.size + 1:=nB ..;refine af (ez (ahQ hD2 ?_));have pick:∀{c:Bool}{x y:Sem n_}{R:n_->ae->Prop}{F':aa->ae->Prop}{s':ae},c=true->ai (ar prog w) A.in1 x R F' s'->ai (ar prog w) A.in1 (if c=true then x else y) R F' s':=fun {c x y R F' s'} hc hy=>by rw[hc];exact hy
 refine pick (by decide+kernel) ?_;refine af (g_ ?_);refine af ?_;show ai _ A.in1 (j_ s.heap.objs.size (·.push .none) >>= fun _=>j_ s.heap.objs.size (·.pop)) _ _ _;refine af (hG hS2 rfl ?_);have hS3:=fg (cE (·.push aa.none)) hS2 rfl;refine hG hS3 rfl ?_;have GR:=fg (cE (·.pop)) hS3 rfl;generalize hH:(((s.heap.push cG).push (kit D 0 es.size ep)).update s.heap.objs.size (cE (·.push aa.none))).update s.heap.objs.size (cE (·.pop))=H at GR;have oth:∀b o,b≠s.heap.objs.size->((s.heap.push cG).push (kit D 0 es.size ep)).get? b=some o->H.get? b=some o:=fun b o hb e=>by rw[<- hH];exact(fm _ _ (dm hb)).trans ((fm _ _ (dm hb)).trans e)
 have W:=(adJ (prog:=prog) (w:=w) (A:=A.in1) (d:=D) (it:=(s.heap.push cG).objs.size) (es:=es) (ep:=ep) (by simpa using hh) (by rw[LK];exact bS (jS su))).toS;have hSf:s.heap.objs.size∉[(s.heap.push cG).objs.size,D]:=by simp only[bz,gx,or_false,not_or];exact⟨by rw[LK];exact bS (Nat.lt_succ_self _),kX su⟩
 refine az ⟨gu qB _,uC W (by rw[dA];lia) s.heap.objs.size hSf _ es.size 0 _ _ _ rfl (d7 _) ⟨kit_is (oth _ _ (by rw[LK];exact t_ _) hI2),hD2.go fun o e=>oth _ _ (bS su) e⟩ GR (uS _) fun s' acc c hm hS' hacc=>?_⟩;show ai _ A (load s.heap.objs.size >>= _) _ _ s';refine af (wpAny_load hS' ?_);have hacc':acc.toList=es.toList.map (·.key):=by
  apply qE;intro i;rw[cf,fF,fF];cases e:acc[i]? with
  |some v =>
   obtain⟨x,hx,rfl⟩:=hacc.2 i v e;rw[hx];rfl
  |none =>
   have:acc.size<=i:=by simpa using e
   rw[hacc.1]at this;rw[qs this];rfl
 obtain⟨h',g',d',tk',os'⟩:=s';have eg:g'=s.gens:=hm.gens;have ed:d'=s.drawn:=hm.drawn;have eo:os'=s.os:=hm.os;subst eg ed eo;show ai _ _ (pure acc.toList) _ _ _;rw[hacc'];refine az (hQ h' tk' (fun b o e=>hm.heap b o ?_ (oth b o (bS (bg e)) (p2 _ _ (p1 _ _ e)))) (fv (bg hS')));simp only[bz,gx,or_false,not_or];exact⟨bS (bg e),by rw[LK];exact bS (jS (bg e))⟩
end
end Dk
namespace Vl
open PySem PySem.Spec L2 So Tb
section
variable{X:Cx}{B:Bs}{W:Wi}{K:ah}
def ajG(K:ah):List V->Hp->VK->Prop:=fun xs H Q=>∃(a:ab) (U:ab->List Int->Prop) (bI:List (List Int×V)),xs=[.ref a]/\Ac H a U bI/\(∀b ks,U b ks->UG K H b ks)/\bI.length < 1000/\(∀p∈bI,p.1≠[]) /\
 ∀l zs,H l=none->zs.length=(cu (bI.map (·.1))).length->(∀(i:Nat) v,zs[i]?=some v->∃b,v=.ref b/\U b ((cu (bI.map (·.1))).getD i []))->Q (.ref l) (upd H l (.lst zs))
theorem nQ{U:ab->List Int->Prop}:∀{bI:List (List Int×V)}{xs:List (List Int×ab×aa)},Paired (fun(p:List Int×V) (q:List Int×ab×aa)=>p.1=q.1/\U q.2.1 q.1/\RelV p.2 q.2.2) bI xs ->
  xs.map (·.1)=bI.map (·.1)/\∀x∈xs,U x.2.1 x.1
 | [],_,.nil=>⟨rfl,fun _ h=>by cases h⟩
 |p::bI,q::xs,.cons r t=>by
  obtain⟨e,m⟩:=nQ t;refine⟨by rw[b_,b_,e,r.1],fun x hx=>?_⟩;rcases bz.mp hx with rfl|hx
  ·exact r.2.1
  ·exact m x hx
theorem vC(hc:X.calm=true):iQ X (.builtin "sorted") (ajG X.K):=by
 intro pins s σ H xs us Q I r h;obtain⟨a,U,bI,rfl,hH,hU,hz,hne,q⟩:=h;obtain⟨u,rfl,rx⟩:=r.one;cases rx;obtain⟨φ,hH,hφ⟩:=hH;obtain⟨o,es,ep,ys,ho,hx,hdat,hsys,hes,hnd,hp⟩:=hφ _ (I.hok _ _ hH).1;obtain⟨ek,hu⟩:=nQ hp;have hlen:ys.length=bI.length:=by have:=congrArg eI ek;simpa using this
 have hsz:es.size=ys.length:=by have:=congrArg eI hes;simpa using this
 have evs:es.toList.map (·.key)=ys.map fun x=>aa.ref x.2.1:=by rw[hes,eS];rfl
 have each:∀(i:Nat) v,(ys.map fun x=>aa.ref x.2.1)[i]?=some v->∃b,v=.ref b/\cK (cb X.prog X.w) s.heap ((ys.map (·.1)).getD i []) b/\U b ((ys.map (·.1)).getD i []):=fun i v hv=>by
  rw[cf]at hv;cases e:ys[i]? with
  |none=>rw[e]at hv;cases hv
  |some x =>
   rw[e]at hv;have hg:(ys.map (·.1)).getD i []=x.1:=by rw[eK,cf,e];rfl
   rw[hg];have hux:=hu x (ko e);exact⟨x.2.1,(cz hv).symm,Mq I (hU _ _ hux),hux⟩
 have hd0:Dk.pL s.heap a es ep:=⟨o,ho,hx,hdat⟩
 refine So.yG (vs:=ys.map fun x=>aa.ref x.2.1) (bf:=ys.map (·.1)) (fun Q' E' hq=>?_) ⟨by simp,fun i v hv=>let ⟨b,h1,h2,_⟩:=each i v hv;⟨b,h1,h2⟩⟩ (fun ks hks=>?_) (by simp;lia) fun h' tk l n p' k hl' hsp hg=>?_
 ·have:=Dk.adK (prog:=X.prog) (w:=X.w) (A:=X.A.in1) (E:=E') (Q:=Q') (by simpa using I.ok.hd hc) hsys hd0 (by lia) (by rw[evs];exact hq);exact this
 ·rw[ek]at hks;obtain⟨p,hp',rfl⟩:=c8.mp hks;exact hne p hp'
 ·have ho':=vA (U:=U) (vs:=ys.map fun x=>aa.ref x.2.1) (bf:=ys.map (·.1)) (Mp:=ys.map (·.1)) ⟨by simp,fun i v hv=>let ⟨b,h1,_,h3⟩:=each i v hv;⟨b,h1,h3⟩⟩ hsp (.refl _);obtain⟨zs,r1,zl,zv⟩:=adw ho';rw[ek]at zl zv;have hln:H l=none:=I.hok.fresh hl';refine⟨.ref l,_,I.laid (t':=tk) k hl' (show fD X.prog X.w _ h' _ (.lst zs) from⟨?_,_,n,r1,hg⟩),rfl,q l zs hln zl zv⟩;have:(cu (bI.map (·.1))).length=(bI.map (·.1)).length:=(eE _).length_eq;rw[zl,this,dA];simp;lia
def EY(j:Nat):au->Rs D:=fun ρ=>match ρ[j]? with
 |some (.od kvs)=>if kvs.length < 1000/\∀p∈kvs,p.1≠[] then .ok (.lst ((cu (kvs.map (·.1))).map aj)) else .no
 |_=>.no
theorem eG.keys{G:Hp}{kvs:List (List Int×D)}{bI:List (List Int×V)}(h:eG K G kvs bI):bI.map (·.1)=kvs.map (·.1):=by
 induction h with
 |nil=>rfl
 |cons r t ih=>rw[b_,b_,ih]
theorem adL(j:Nat) {x:Str}{p p1 pos:Pos}(hc:X.calm=true) (hm:X.mg "sorted"=none) (hN:X.N[j]?=some x:=by rfl) (hv:Kv X.env.scope x:=by first|exact Or.inl rfl|exact Or.inr (Or.inl rfl)|exact Or.inr (Or.inr rfl)) (hd:(x == ("__debug__":Str))=false:=by decide)
  (hcd:(x == ("__classdict__":Str))=false:=by decide) (hg:Gl X "sorted":=by rfl) (he:a9 [.Name x p1] X.env=[(false,aS (.Name x p1) X.env)]:=by rfl) :
  SE X B W (.Call (.Name "sorted" p) [.Name x p1] [] pos) (EY j):=by
 refine PE.imp (nu (vC hc) hg hm ox (dg (gO hN hv hd hcd) gP he) (by decide) (by decide) he rfl) fun σ H Q fV=>?_;obtain⟨ρ,G,s,pp⟩:=fV;unfold EY at pp;split at pp
 ·rename_i kvs q;split at pp
  ·rename_i hc2;obtain⟨a,o,h1,h2,h3,h4,U,bI,rfl,hU,hk⟩:=s.own j _ q rfl;have ek:=hk.keys;have el:bI.length=kvs.length:=by have:=congrArg eI ek;simpa using this
   refine⟨_,h1,a,U,bI,rfl,YB h2,fun b ks z=>Same.gK s.en.gh (hU b ks z),by lia,fun p hp=>?_,fun l zs hl hz hv'=>?_⟩
   ·have:p.1∈kvs.map (·.1):=ek▸mB hp;obtain⟨p',hp',e⟩:=c8.mp this;exact e▸hc2.2 p' hp'
   ·rw[ek]at hz hv';have x:=nJ (xs:=zs) s.en.gh s.en.tp hl;refine pp _ _ _ x (aW.mpr ⟨l,zs,rfl,.of bA,(jX hz fun i v hv2=>?_).mono x.gg⟩);obtain⟨b,e1,e2⟩:=hv' i v hv2;exact⟨b,e1,hU b _ e2⟩
  ·exact pp.elim
 ·exact pp.elim
end
end Vl
namespace Zp
open PySem PySem.Spec
section
variable{prog:aE}{w:ay}{A:a8}{E:aa->ae->Prop}{s:ae}
end
structure Ap (z TI TO i1 i2:ab)(f1 f2:List ab):Prop where
 zTI:TI≠z
 zTO:TO≠z
 TT:TI≠TO
 z1:z∉f1
 z2:z∉f2
 o1:TO∉f1
 o2:TO∉f2
 t1:TI∉f1
 t2:TI∉f2
 m1:i1∈f1
 m2:i2∈f2
 c1:i2∉f1
 c2:i1∉f2
section
variable{prog:aE}{w:ay}{A:a8}{E:aa->ae->Prop}{s:ae}{z TI TO i1 i2:ab}{f1 f2:List ab}{n1 n2 k:Nat}{P1 P2:Nat->aa->Prop}{S1 S2:Nat->Heap->Prop}{a b:aa}
end
section
variable{prog:aE}{w:ay}{A:a8}{E:aa->ae->Prop}{s:ae}
end
end Zp
namespace L2
open PySem PySem.Spec PyProof.Rows
section
variable{X:Cx}
end
end L2
namespace Vl
open PySem PySem.Spec L2
section
variable{X:Cx}{B:Bs}{W:Wi}{K:ah}{G:Hp}
end
end Vl
namespace Vl
open PySem PySem.Spec PySem.Calls PySem.W L2
section
variable{X:Cx}{K:ah}{B:Bs}{W:Wi}{σ:St}{G H:Hp}{ρ:au}
theorem bL.set:∀{ds:List D}{vs:List V}{d:D}{v:V}(j:Nat),bL K G ds vs->Rep K G d v->bL K G (ds.set j d) (vs.set j v)
 | [],_,_,_,_,h,_=>by rw[bG.mp h];exact bG.mpr rfl
 |e::ds,_,d,v,0,h,r=>by obtain⟨u,us,rfl,h1,h2⟩:=aQ.mp h;exact aQ.mpr ⟨v,us,rfl,r,h2⟩
 |e::ds,_,d,v,j + 1,h,r=>by obtain⟨u,us,rfl,h1,h2⟩:=aQ.mp h;exact aQ.mpr ⟨u,_,rfl,h1,bL.set j h2 r⟩
theorem bL.erase:∀{ds:List D}{vs:List V}(j:Nat),bL K G ds vs->bL K G (ds.eraseIdx j) (vs.eraseIdx j)
 | [],_,_,h=>by rw[bG.mp h];exact bG.mpr rfl
 |e::ds,_,0,h=>by obtain⟨u,us,rfl,h1,h2⟩:=aQ.mp h;exact h2
 |e::ds,_,j + 1,h=>by obtain⟨u,us,rfl,h1,h2⟩:=aQ.mp h;exact aQ.mpr ⟨u,_,rfl,h1,bL.erase j h2⟩
end
end Vl
namespace Vl
open PySem PySem.Spec L2
section
variable{X:Cx}{B:Bs}{W:Wi}{K:ah}
end
end Vl
namespace L2
open PySem PySem.Spec PyProof.Rows
section
variable{X:Cx}
end
end L2
namespace Vl
open PySem PySem.Spec L2
section
variable{X:Cx}{B:Bs}{W:Wi}{K:ah}{G:Hp}
end
end Vl
namespace Tb
open PySem PySem.SetTable
def Emp(t:bE)(j:Nat):Prop:=¬DW t j/\has t.dummies j=false
structure arq (t:bE)(L:List rD):Prop where
 pw:∃k,t.mask + 1=2 ^ k
 m7:7<=t.mask
 pl:t.place=(L.map (·.1)).toArray
 so:(L.map (·.1)).Pairwise (· < ·)
 le:∀e∈L,e.1<=t.mask
 dr:DR t.dummies
 dj:∀e∈L,has t.dummies e.1=false
 fl:t.fill<=t.mask
 reach:∀e∈L,∃s,pos t e.2.1 s=e.1/\∀s',s' < s->¬Emp t (pos t e.2.1 s')
section
variable{t:bE}{L:List rD}
end
end Tb
namespace Tb
open PySem PySem.Spec PySem.SetTable
section
variable{prog:aE}{w:ay}{A:a8}{E:aa->ae->Prop}{s:ae}
end
section
variable{prog:aE}{w:ay}{U:ab->List Int->Prop}{A:a8}{E:aa->ae->Prop}{s:ae}
end
section
variable{prog:aE}{w:ay}{U:ab->List Int->Prop}{A:a8}{E:aa->ae->Prop}{s:ae}
end
end Tb
namespace So
open PySem PySem.Spec PySem.W PyProof.Rows PySem.Calls PySem.SetTable Tb
section
variable{prog:aE}{w:ay}{A:a8}{E:aa->ae->Prop}{s:ae}{U:ab->List Int->Prop}
end
end So
namespace Vl
open PySem PySem.Spec L2 So Tb
section
variable{X:Cx}{B:Bs}{W:Wi}
end
end Vl
namespace Vl
open PySem PySem.Spec L2 Dk
section
variable{prog:aE}{w:ay}{A:a8}{E:aa->ae->Prop}{s:ae}
end
section
variable{X:Cx}{B:Bs}{W:Wi}
end
end Vl
namespace So
open PySem PySem.Spec PySem.W PyProof.Rows PySem.Calls Tb
section
variable{prog:aE}{w:ay}{A:a8}{E:aa->ae->Prop}{s:ae}
section
variable{I S:ab}{fp wr:List ab}{G:Array kS->Array kS->Prop}{n:Nat}{P:Nat->aa->Prop}{St:Nat->ae->Prop}{R:Result->ae->Prop}{Kp:Heap->Prop}{bt:Nat->Nat->Bool}
def two(v:aa)(c:Nat):Obj:={ cls:=.type "list",dict:=none,data:=.seq #[v,v] c,slots:=#[] }
end
end
end So
namespace Vl
open PySem PySem.Spec L2 So
section
variable{X:Cx}{B:Bs}{W:Wi}{K:ah}
end
end Vl
namespace Vl
open PySem PySem.Spec L2
theorem ur{α β:Type}(f:α->β):∀(l:List α) (j:Nat),(l.map f).eraseIdx j=(l.eraseIdx j).map f
 | [],_=>rfl
 |_::_,0=>rfl
 |_::l,j + 1=>by simp[qi,ur f l j]
section
variable{prog:aE}{w:ay}{K:Type}[DecidableEq K]{knd:HeapKind prog w K}{A:a8}{E:aa->ae->Prop}{s:ae}
end
section
variable{X:Cx}{B:Bs}{W:Wi}{K:ah}
end
end Vl
namespace Zp
open PySem PySem.Spec
section
variable{prog:aE}{w:ay}{A:a8}{E:aa->ae->Prop}{s:ae}
end
end Zp
namespace L2
open PySem PySem.Spec PyProof.Rows
section
variable{X:Cx}
end
end L2
namespace Vl
open PySem PySem.Spec L2
section
variable{X:Cx}{B:Bs}{W:Wi}{K:ah}{G:Hp}
def Fb(h:Tg)(gb:au->Ou)(f:au->Rs (List D)):au->Ou:=fun ρ=>match f ρ with
 | .ok ds=>dD h gb ds ρ
 | .ex c n=>.ex c n ρ
 | .no=>.no
theorem Zr{tg iter:ag}{body:List be}{pos:Pos}{f:au->Rs (List D)}{h:Tg}{gb:au->Ou}(hp:ki (ar X.prog X.w) X.A X.env X.xe)(hc:X.calm=true)(hi:SI X B W tg iter f)(hg:SG X B tg h)(hb:uM X B W body gb)
  (hs:∀x,fw iter X.env x=pure x:=by intro _;rfl):SS X B W (.For tg iter body [] pos) (Fb h gb f):=by
 refine PS.imp (yq hp hc hi hg hb hs) fun De σ H ⟨ρ,G,s,p⟩=>⟨ρ,G,s,?_⟩
 unfold Fb at p;cases e:f ρ with
 |no=>rw[e]at p;exact p.elim
 |ex c n=>rw[e]at p;exact fun H' G' x=>p σ H' G' (s.ext x) x.gg
 |ok ds =>
  rw[e]at p;intro J H' G' x yl;refine⟨fun i m σ H=>m=ds.length - i/\i<=ds.length/\∃ρ G,SR X.K B σ H ρ G/\Same G' G/\cI X.K B W G (dD h gb (ds.drop i) ρ) De,⟨ds.length,by simp,d7 _,ρ,G',s.ext x,.refl _,by simpa using cI.same p x.gg⟩,?_⟩;rintro i m σ2 H2 ⟨rfl,hi',ρ2,G2,s2,gg,p2⟩;obtain⟨y1,y2⟩:=yl i G2 H2 gg s2.yt;by_cases hlt:i < ds.length
  ·obtain⟨go,y3⟩:=y1 ds[i] (d4 hlt);refine .inr ⟨go,fun σ' H'=>∃ρ' G3,SR X.K B σ' H' ρ' G3/\Same G' G3/\cI X.K B W G3 (dD h gb (ds.drop (i + 1)) ρ') De,fun σ' H3 p'=>⟨ds.length - (i + 1),by lia,rfl,hlt,p'⟩,fun v H3 yd=>?_⟩;obtain⟨G3,x3,r3⟩:=y3 v H3 yd;rw[ip hlt]at p2;exact wk (s2.ext x3) r3 (cI.same p2 x3.gg) fun σ' H4 ρ' G4 s' q' p'=>⟨ρ',G4,s',gg.trans (x3.gg.trans q'),p'⟩
  ·have ei:i=ds.length:=by lia
   subst ei;rw[o7]at p2;exact .inl ⟨y2 (bj _),p2 σ2 H2 G2 s2 (.refl _)⟩
end
end Vl
namespace Vl
open PySem PySem.Spec PySem.Calls PySem.W L2
end Vl
namespace HT2
open PySem PySem.Spec PyProof.Rows HT
variable{prog:aE}{w:ay}{A:a8}{E:aa->ae->Prop}{s:ae}
end HT2
namespace Vl
open PySem PySem.Spec PySem.Calls PySem.W L2
section
variable{X:Cx}{B:Bs}{W:Wi}
section
variable{K:ah}{σ:St}{G H:Hp}{ρ:au}
end
def Zt(j:Nat):au->Rs D:=fun ρ=>match ρ[j]? with
 |some (.ow ds)=>.ok (.int ds.length)
 |some (.fz (.lst ds))=>.ok (.int ds.length)
 |_=>.no
theorem agl(j:Nat) {x:Str}{p p1 pos:Pos}(hm:X.mg "len"=none) (hN:X.N[j]?=some x:=by rfl) (hv:Kv X.env.scope x:=by first|exact Or.inl rfl|exact Or.inr (Or.inl rfl)|exact Or.inr (Or.inr rfl)) (hd:(x == ("__debug__":Str))=false:=by decide)
  (hcd:(x == ("__classdict__":Str))=false:=by decide) (hg:Gl X "len":=by rfl) (he:a9 [.Name x p1] X.env=[(false,aS (.Name x p1) X.env)]:=by rfl) :
  SE X B W (.Call (.Name "len" p) [.Name x p1] [] pos) (Zt j):=by
 refine PE.imp (nu vV hg hm PySem.boot_len (dg (gO hN hv hd hcd) gP he) (by decide) (by decide) he rfl) fun σ H Q ⟨ρ,G,s,pp⟩=>?_;unfold Zt at pp;split at pp
 ·rename_i ds q;obtain⟨a,vs,e1,h2,h3,h4,h5⟩:=s.ow j ds q;refine⟨_,e1,a,vs,rfl,.inl (.of h2),?_⟩;have:=pp _ H G s.yt (aM.mpr rfl);rw[<- h5.length];exact this
 ·rename_i ds q;obtain⟨v,e1,r⟩:=s.fz j _ q;obtain⟨a,vs,rfl,h2,h5⟩:=aW.mp r;refine⟨_,e1,a,vs,rfl,.inl (s.en.gh.seq h2),?_⟩;have:=pp _ H G s.yt (aM.mpr rfl);rw[<- h5.length];exact this
 ·exact pp.elim
end
end Vl
namespace Vl
open PySem PySem.Spec PySem.Calls PySem.W L2 PyProof.Rows
section
variable{X:Cx}{B:Bs}{W:Wi}
section
variable{K:ah}
end
section
variable{K:ah}
end
variable{a b:ag}{pos:Pos}{fa fb:au->Rs D}
end
end Vl
namespace Vl
open PySem PySem.Spec L2 AutoSeq1
abbrev ajH(xs:Array aa)(m:Nat)(sl:Array (Option aa)):Obj:={ cls:=.type "list",dict:=none,data:=.seq xs m,slots:=sl }
theorem WR{l b:ab}{xs ys:Array aa}{m k:Nat}{sl:Array (Option aa)}(c0:¬(!xs.isEmpty && oS (xs.size + ys.size))=true)(c1:xs.size<=sizeLine)(c2:xs.size + ys.size<=sizeLine + 1) :
  Meets (Builtin.«list.extend» ⟨[.ref l,.ref b],[]⟩) (fun _ R s=>s.heap.get? l=some (ajH xs m #[])/\s.heap.get? b=some (ajH ys k sl)/\R (.ok (.ret .none)) { s with heap:=s.heap.update l (cE fun x=>x++ys),toks:=s.toks }):=by
 refine .of_wp fun prog w A R s h=>?_;obtain⟨hp,g,d,tk,os⟩:=s;obtain⟨h1,h2,h3⟩:=h;have f1:=idx_int;have f2:=sub_tuple_tuple;have f3:=sub_list_list;have f4:=sub_tuple_list;have f5:=sub_list_tuple;have z:(xs++ys).size<=sizeLine + 1:=by rw[kH];exact c2
 wp_walk using(hG h1 rfl (hz:=c1) (_hz':=z)),wpAny_loadPart' h1,wpAny_loadPart' h2
 exact⟨_,rfl,h3⟩
section
variable{X:Cx}{B:Bs}{W:Wi}{K:ah}
def ahR(K:ah):V->List V->Hp->VK->Prop:=fun x vs H Q=>∃l b xs zs,x=.ref l/\vs=[.ref b]/\H l=some (.lst xs)/\rG K H b zs/\xs.length + zs.length<=sizeLine/\Q .non (upd H l (.lst (xs++zs)))
theorem agm:MtM X "list.extend" (ahR X.K):=by
 intro pins s σ H x vs v us Q I rx rv ⟨l,b,xs,zs,e1,e2,hH,hB,hz,q⟩;subst e1;subst e2;cases rx;obtain⟨u,rfl,ru⟩:=rv.one;cases ru;obtain⟨z,its,n,r,hl,e⟩:=I.aiJ hH;have hb:∃(its2:List aa) (n2:Nat) (sl:Array (Option aa)),Vals zs its2/\s.heap.get? b=some (ajH its2.toArray n2 sl):=by
  rcases hB with h|⟨o,its2,n2,hk,hc,hd,hs,hz2,r2⟩
  ·obtain⟨z2,its2,n2,r2,e2⟩:=h.ok I.hok;exact⟨its2,n2,#[],r2,e2⟩
  ·refine⟨its2.toList,n2,o.slots,r2,?_⟩;rw[I.Vu b o hk];cases o;simp only at hc hd hs;subst hc;subst hd;subst hs;rfl
 obtain⟨its2,n2,sl,r2,w2⟩:=hb;have l2:=r2.length;have le:its.length + its2.length<=sizeLine:=by lia
 have c:¬(!its.toArray.isEmpty && oS (its.length + its2.length))=true:=fun y=>by have:=(ky _ _▸y).2;rw[abP le]at this;cases this
 have m:=WR (l:=l) (b:=b) (xs:=its.toArray) (ys:=its2.toArray) (m:=n) (k:=n2) (sl:=sl) c (cx (tz _ _) le) (Nat.le_succ_of_le le);refine call_meets F.slot_list_extend ⟨_,e,rfl⟩ F.entry_list_extend (F.args_list_extend_2 _ _) m ⟨e,w2,.non,_,?_,rfl,q⟩;exact I.aiI (its':=its++its2) hH e (by simp) (r.append r2) (by rw[dC];exact hz)
def JN(i:Nat)(f:au->Rs D):au->Ou:=fun ρ=>match ρ[i]? with
 |some (.ow ds)=>oR (f ρ) ρ fun d=>(match d with
  | .lst es=>if ds.length + es.length<=1000000 then .nx (ρ.set i (.ow (ds++es))) else .no
  |_=>.no)
 |_=>.no
theorem agn{i:Nat}{x:Str}{e:ag}{pos p1 p2 cp:Pos}{f:au->Rs D}(he:SE X B W e f)
  {pe:PE X (.Call (.Attribute (.Name x p1) "extend" p2) [e] [] cp) (tBM X.K "list" (ahR X.K) (GD i) (abK (tF X.K B W f) aiD))}
  (hs:d6 (.Call (.Attribute (.Name x p1) "extend" p2) [e] [] cp) none pos.line X.env=pure false:=by rfl) :
  SS X B W (.Expr (.Call (.Attribute (.Name x p1) "extend" p2) [e] [] cp) pos) (JN i f):=by
 refine PS.imp (Ky pe hs) fun De σ H fV=>?_;obtain⟨ρ,G,s,p⟩:=fV;unfold JN at p;cases q:ρ[i]? with
 |none=>rw[q]at p;exact p.elim
 |some z =>
  rw[q]at p;cases z with
  |no=>exact p.elim
  |fz d=>exact p.elim
  |od _=>exact p.elim
  |op _=>exact p.elim
  |ow ds =>
   obtain⟨a,vs,e1,h2,h3,h4,h5⟩:=s.ow i ds q;refine⟨_,e1,.inl ⟨rfl,vs,.of h2⟩,ρ,G,s,iu s p fun d v H' G' _ x r p'=>?_⟩;cases d with
   |lst es =>
    dsimp only at p';by_cases hl:ds.length + es.length<=1000000
    ·rw[if_pos hl]at p';have s':=s.ext x;obtain⟨b,us,rfl,q2,rr⟩:=aW.mp r;refine⟨a,b,vs,us,rfl,rfl,x.hh _ _ h2,x.gh.seq q2,by rw[<- h5.length,<- rr.length];exact sz6 hl,?_⟩;exact p' σ _ G' (s'.write q e1 ((h5.mono x.gg).append rr)) (.refl _)
    ·rw[if_neg hl]at p';exact p'.elim
   |_=>exact p'.elim
theorem ago(i:Nat) {x:Str}{e:ag}{pos p1 p2 cp:Pos}{f:au->Rs D}(he:SE X B W e f) (hN:X.N[i]?=some x:=by rfl) (hv:Kv X.env.scope x:=by first|exact Or.inl rfl|exact Or.inr (Or.inl rfl)|exact Or.inr (Or.inr rfl)) (hd:(x == ("__debug__":Str))=false:=by decide)
  (hcd:(x == ("__classdict__":Str))=false:=by decide) (hst:a9 [e] X.env=[(false,aS e X.env)]:=by rfl)
  (hbase:ku (.Name x p1) "extend" X.env (aS (.Name x p1) X.env)=aS (.Name x p1) X.env:=by rfl)
  (hfew:((c6 cp (a9 [e] X.env)).all (fun x=>!x.1) && (ik cp (il [] X.env)).all (fun x=>x.1.isSome)
   && decide (([e]:List ag).length + ([]:List i4).length + (if ([]:List i4).isEmpty then 0 else 1) < 30))=true:=by rfl)
  (hline:(p2.endLine == cp.line)=true:=by rfl) (hplain:(c6 cp (a9 [] X.env)).any (·.1)=false:=by rfl)
  (hs:d6 (.Call (.Attribute (.Name x p1) "extend" p2) [e] [] cp) none pos.line X.env=pure false:=by rfl) :
  SS X B W (.Expr (.Call (.Attribute (.Name x p1) "extend" p2) [e] [] cp) pos) (JN i f) :=
 agn (pe:=abO vc PySem.F.slot_list_extend PySem.F.type_list_extend agm (gO hN hv hd hcd) (dg he gP hst) hbase hfew hline hst hplain) he hs
end
end Vl
namespace Vl
open PySem PySem.Spec PySem.Calls PySem.W L2
def msk(H:Hp)(a:ab):Hp:=fun b=>if b=a then none else H b
theorem qD{H:Hp}{a b:ab}(h:b≠a):msk H a b=H b:=if_neg h
theorem Fd{H:Hp}{a:ab}:msk H a a=none:=if_pos rfl
theorem RN{H:Hp}{a b:ab}{o:HO}(h:msk H a b=some o):b≠a/\H b=some o:=by
 by_cases e:b=a
 ·subst e;rw[Fd]at h;cases h
 ·rw[qD e]at h;exact⟨e,h⟩
def lent:Sl->Option (List D)
 | .ow ds=>some ds
 | .op ds=>some ds
 |_=>none
def iK:Sl->List D->Sl
 | .ow _,ds=>.ow ds
 | .op _,ds=>.op ds
 |z,_=>z
theorem sO{z:Sl}{ds:List D}(h:lent z=some ds):z.own=true:=by cases z <;> first|rfl|cases h
theorem Fe{z:Sl}{ds es:List D}(h:lent z=some ds):(iK z es).own=true:=by cases z <;> first|rfl|cases h
section
variable{X:Cx}{K:ah}{B:Bs}{W:Wi}{σ:St}{G H G' H':Hp}{ρ:au}
theorem JQ{z:Sl}{ds es:List D}{ws:List V}{a:ab}(h:lent z=some ds)(r:bL K G es ws):rN K G a (iK z es) (.lst ws):=by
 cases z <;> first|exact⟨ws,rfl,r⟩|cases h
theorem JR{z:Sl}{ds es fs:List D}(h:lent z=some ds)(e:iK z es=.op fs):∃gs,z=.op gs:=by
 cases z <;> first|exact⟨_,rfl⟩|cases e|cases h
theorem SR.lent(s:SR K B σ H ρ G){i:Nat}{z:Sl}{ds:List D}(q:ρ[i]?=some z)(hl:lent z=some ds) :
  ∃a vs,σ[i]?=some (some (.ref a))/\H a=some (.lst vs)/\G a=none/\B.2 a=none/\bL K G ds vs:=by
 obtain⟨a,o,h1,h2,h3,h4,h5⟩:=s.own i z q (sO hl);cases z with
 |ow es=>cases hl;obtain⟨vs,rfl,r⟩:=h5;exact⟨a,vs,h1,h2,h3,h4,r⟩
 |op es=>cases hl;obtain⟨vs,rfl,r⟩:=h5;exact⟨a,vs,h1,h2,h3,h4,r⟩
 |_=>cases hl
theorem SR.back(s:SR K B σ H ρ G){i:Nat}{z:Sl}{ds es:List D}{a:ab}{ws:List V}(q:ρ[i]?=some z)(hl:Vl.lent z=some ds)(ha:σ[i]?=some (some (.ref a)))
  (e:Ext G (msk H a) G' H') (g:G' a=none) (h:H' a=some (.lst ws)) (r:bL K G' es ws):SR K B σ H' (ρ.set i (iK z es)) G':=by
 have li:i < ρ.length:=(di.mp q).1;obtain⟨a0,o0,h1,h2,h3,h4,h5⟩:=s.own i z q (sO hl);have ea:a0=a:=by rw[h1]at ha;injection ha with z;injection z with z;injection z
 subst ea;have rR:∀{j:Nat}{x:Sl},(ρ.set i (iK z es))[j]?=some x->(i=j/\x=iK z es)∨(i≠j/\ρ[j]?=some x):=fun {j x} q=>by
  by_cases e:i=j
  ·subst e;rw[dk li]at q;cases q;exact .inl ⟨rfl,rfl⟩
  ·rw[cS e]at q;exact .inr ⟨e,q⟩
 refine⟨⟨s.en.gg.trans e.gg,fun b o w=>?_,e.gh,e.tp,fun b o w n=>?_⟩,by simp[s.len],fun j d w=>?_,fun j x w wx=>?_,fun j k x x' c z1 w1 z2 w2 z3 z4=>?_,fun j fs c z1 z2=>?_,fun y m=>?_⟩
 ·have ne:b≠a0:=aY w h4;exact e.hh b o (by rw[qD ne];exact s.en.hh b o w)
 ·have ne:b≠a0:=aY w h4;exact e.nw b o (by rw[qD ne];exact s.en.hh b o w) (s.en.nw b o w n)
 ·rcases rR w with ⟨_,e1⟩|⟨_,w⟩
  ·have:=Fe (es:=es) hl;rw[<- e1]at this;cases this
  ·obtain⟨v,q1,q2⟩:=s.fz j d w;exact⟨v,q1,q2.mono e.gg⟩
 ·rcases rR w with ⟨e1,e2⟩|⟨e1,w⟩
  ·subst e1;subst e2;exact⟨a0,_,ha,h,g,h4,JQ hl r⟩
  ·obtain⟨b,o,q1,q2,q3,q4,q5⟩:=s.own j x w wx;have ne:b≠a0:=fun e2=>by subst e2;exact e1 (s.ap i j z x b q (sO hl) w wx ha q1)
   exact⟨b,o,q1,e.hh b o (by rw[qD ne];exact q2),e.nw b o (by rw[qD ne];exact q2) q3,q4,q5.mono e.gg⟩
 ·have old:∀{l:Nat}{y:Sl},(ρ.set i (iK z es))[l]?=some y->y.own=true->∃y',ρ[l]?=some y'/\y'.own=true:=fun {l y} w wy=>by
   rcases rR w with ⟨e1,e2⟩|⟨e1,w⟩
   ·subst e1;exact⟨z,q,sO hl⟩
   ·exact⟨y,w,wy⟩
  obtain⟨y1,p1,p2⟩:=old z1 w1;obtain⟨y2,p3,p4⟩:=old z2 w2;exact s.ap j k y1 y2 c p1 p2 p3 p4 z3 z4
 ·rcases rR z1 with ⟨e1,e2⟩|⟨e1,w⟩
  ·subst e1;obtain⟨gs,e3⟩:=JR hl e2.symm;rw[e3]at q;exact s.tie i gs c q z2
  ·exact s.tie j fs c w z2
 ·have t:=s.co y m;exact e.hh _ _ (by rw[qD (fun z=>by subst z;rw[h2]at t;exact h5.tab _ (cz t))];exact t)
def RX(K:ah)(a:ab)(G H:Hp)(Q:VK)(r:Rs (D×List D)):Prop:=match r with
 | .ok (d,es)=>∀v H' G' ws,Ext G (msk H a) G' H'->G' a=none->H' a=some (.lst ws)->bL K G' es ws->Rep K G' d v->Q v H'
 |_=>False
def spM(K:ah)(n:Nat)(g:List D->List D->Rs (D×List D)):Sp:=fun vs H Q E=>vs.length=n + 1/\∃a us G ws es ds,vs=.ref a::us/\Ex0 K G H/\G a=none/\H a=some (.lst ws)/\bL K G es ws/\bL K G ds us/\RX K a G H Q (g es ds)
def iM(N:List Str)(es ds:List D):au:=(.op es::ds.map .fz)++gd (N.length - (ds.length + 1)) .no
def WT:Ou->Rs (D×List D)
 | .rx d (.op es::_)=>.ok (d,es)
 | .nx (.op es::_)=>.ok (.non,es)
 |_=>.no
theorem aaP{N:List Str}{es ds:List D}{ws us:List V}{a:ab}(e:Ex0 K G H)(g:G a=none)(h:H a=some (.lst ws))(r0:bL K G es ws)(r:bL K G ds us) :
  SR K ⟨G,msk H a,a⟩ (L2.start N (.ref a::us)) H (iM N es ds) G:=by
 have z0:(iM N es ds)[0]?=some (.op es):=rfl;have agp:∀(i:Nat) (z:Sl),(iM N es ds)[i]?=some z->z.own=true->i=0:=fun i z q w=>by
  cases i with
  |zero=>rfl
  |succ i =>
   have q':(ds.map Sl.fz++gd (N.length - (ds.length + 1)) .no)[i]?=some z:=q;by_cases hi:i < (ds.map Sl.fz).length
   ·rw[fy hi,cf]at q';cases e1:ds[i]? with
    |none=>rw[e1]at q';cases q'
    |some d=>rw[e1]at q';cases q';cases w
   ·rw[gi (by lia),jI]at q';split at q' <;> cases q';cases w
 refine⟨⟨.refl _,fun b o w=>(RN w).2,e.gh,e.tp,fun b o w n=>n⟩,?_,fun i d q=>?_,fun i z q w=>?_,fun i j z z' c q1 w1 q2 w2 _ _=>(agp i z q1 w1).trans (agp j z' q2 w2).symm,fun i fs c q1 q2=>?_,e.co⟩
 ·unfold iM L2.start;simp[r.length]
 ·cases i with
  |zero=>cases (z0.symm.trans q)
  |succ i =>
   have q':(ds.map Sl.fz++gd (N.length - (ds.length + 1)) .no)[i]?=some (.fz d):=q;by_cases hi:i < (ds.map Sl.fz).length
   ·rw[fy hi,cf]at q';cases e1:ds[i]? with
    |none=>rw[e1]at q';cases q'
    |some d' =>
     rw[e1]at q';cases q';obtain⟨v,h1,h2⟩:=r.get e1;refine⟨v,?_,h2⟩;show((us.map some)++gd (N.length - (us.length + 1)) none)[i]?=some (some v);rw[fy (by rw[b8,<- r.length];simpa using hi),cf,h1];rfl
   ·rw[gi (by lia),jI]at q';split at q' <;> cases q'
 ·cases agp i z q w;cases (z0.symm.trans q);exact⟨a,_,rfl,h,g,Fd,ws,rfl,r0⟩
 ·cases agp i _ q1 rfl;have:some (some (V.ref a))=some (some (V.ref c)):=q2;injection this with this;injection this with this;injection this with this;exact this.symm
theorem aaQ{o:Ou}{Q:VK}{a:ab}(h:RX K a G H Q (WT o)):cI K ⟨G,msk H a,a⟩ W G' o { nx:=fun _ H'=>Q .non H',rt:=Q }:=by
 cases o with
 |nx ρ' =>
  cases ρ' with
  |nil=>exact h.elim
  |cons z ρ' =>
   cases z with
   |op es =>
    intro σ' H2 G2 s q;obtain⟨b,vs,h1,h2,h3,h4,h5⟩:=s.lent (i:=0) (z:=.op es) (ds:=es) rfl rfl;have eb:b=a:=s.tie 0 es b rfl h1;subst eb;exact h .non H2 G2 vs s.en h3 h2 h5 (bR.mpr rfl)
   |_=>exact h.elim
 |rx d ρ' =>
  cases ρ' with
  |nil=>exact h.elim
  |cons z ρ' =>
   cases z with
   |op es =>
    intro v σ' H2 G2 s q r;obtain⟨b,vs,h1,h2,h3,h4,h5⟩:=s.lent (i:=0) (z:=.op es) (ds:=es) rfl rfl;have eb:b=a:=s.tie 0 es b rfl h1;subst eb;exact h v H2 G2 vs s.en h3 h2 h5 r
   |_=>exact h.elim
 |_=>exact h.elim
end
def WW(P:aE)(w:ay)(K:ah)(mg:Str->Option aa)(base:Heap)(x:Str)(k n:Nat)(v:List D->List D->Rs (D×List D)):Prop :=
 ∃f fd ps,GF P w K mg base (Gy P w K) k f fd ps (spM K n v)/\mg x=some (.ref f)/\f_ K (.ref f)=true/\Binds K fd ps []
theorem Fg{P:aE}{w:ay}{K:ah}{mg:Str->Option aa}{base:Heap}{x:Str}{st:be}{f:ab}{fd:b9}{N ps:List Str}{k n:Nat}{g:au->Ou}(F:vP K x x st f fd)(hm:mg x=some (.ref f))(S:bQ N ps (aD st))
  (hbi:∀(kV doc pm:aa) (an:Option ab) (cdv ct:aa) (us:List aa),us.length=ps.length->bindArgs (eJ x x (bJ st) (bC st) (aD st) .none kV doc pm an cdv ct) ⟨us,[]⟩=pure (ps.zip us))
  (hb:∀(cdv:aa) (A:a8) (outer:List Env) (s:ae) (H:Hp) (E:XK) (B:Bs),lJ k (A.deeper (lz x (aD st) s.heap.objs.size f cdv)) ->
   wA (rM (Gy P w K) P w K mg base N x (aD st) f cdv A outer s H E) (fun c n _ H'=>E (Cq c n) none H') ->
   uM (rM (Gy P w K) P w K mg base N x (aD st) f cdv A outer s H E) B (fun c n _ H'=>E (Cq c n) none H') (bC st) g) (hn:ps.length=n + 1:=by rfl) :
  WW P w K mg base x (k + 1) n (fun es ds=>WT (g (iM N es ds))):=by
 refine⟨f,fd,ps,?_,hm,F.kp,F.binds hbi⟩;obtain⟨oc,od,kV,doc,pm,an,cdv,ct,osl,rfl,lk,hcd⟩:=F.ex;refine Yw lk hcd S (fun vs H Q E h=>by rw[hn];exact h.1) fun A outer s H vs Q E hr h=>?_;obtain⟨_,a,us,G,ws,es,ds,rfl,e,g1,h1,r0,r,h⟩:=h;dsimp only at h;exact⟨_,hb cdv A outer s H E ⟨G,msk H a,a⟩ hr (rW pC rfl),iM N es ds,G,aaP e g1 h1 r0 r,aaQ h⟩
def spF(K:ah)(n:Nat)(g:List D->Rs (List D)):Sp:=fun vs H Q E=>vs.length=n/\∃G ds,Ex0 K G H/\bL K G ds vs/\(match g ds with
 | .ok es=>∀a ws H' G',Ext G H G' H'->G' a=none->H a=none->H' a=some (.lst ws)->bL K G' es ws->Q (.ref a) H'
 |_=>False)
def ami:Ou->Rs (List D)
 | .rl es=>.ok es
 |_=>.no
def Okf(P:aE)(w:ay)(K:ah)(mg:Str->Option aa)(base:Heap)(x:Str)(k n:Nat)(v:List D->Rs (List D)):Prop :=
 ∃f fd ps,GF P w K mg base (Gy P w K) k f fd ps (spF K n v)/\mg x=some (.ref f)/\f_ K (.ref f)=true/\Binds K fd ps []
theorem ajI{P:aE}{w:ay}{K:ah}{mg:Str->Option aa}{base:Heap}{x:Str}{st:be}{f:ab}{fd:b9}{N ps:List Str}{k:Nat}{g:au->Ou}(F:vP K x x st f fd)(hm:mg x=some (.ref f))(S:bQ N ps (aD st))
  (hbi:∀(kV doc pm:aa) (an:Option ab) (cdv ct:aa) (us:List aa),us.length=ps.length->bindArgs (eJ x x (bJ st) (bC st) (aD st) .none kV doc pm an cdv ct) ⟨us,[]⟩=pure (ps.zip us))
  (hb:∀(cdv:aa) (A:a8) (outer:List Env) (s:ae) (H:Hp) (E:XK) (B:Bs),lJ k (A.deeper (lz x (aD st) s.heap.objs.size f cdv)) ->
   wA (rM (Gy P w K) P w K mg base N x (aD st) f cdv A outer s H E) (fun c n _ H'=>E (Cq c n) none H') ->
   uM (rM (Gy P w K) P w K mg base N x (aD st) f cdv A outer s H E) B (fun c n _ H'=>E (Cq c n) none H') (bC st) g) :
  Okf P w K mg base x (k + 1) ps.length (fun ds=>ami (g (bF N ds))):=by
 refine⟨f,fd,ps,?_,hm,F.kp,F.binds hbi⟩;obtain⟨oc,od,kV,doc,pm,an,cdv,ct,osl,rfl,lk,hcd⟩:=F.ex;refine Yw lk hcd S (fun vs H Q E h=>h.1) fun A outer s H vs Q E hr h=>?_;obtain⟨_,G,ds,e,r,h⟩:=h;dsimp only at h;refine⟨_,hb cdv A outer s H E ⟨G,H,0⟩ hr (rW pC rfl),bF N ds,G,Dv e r,?_⟩;cases e1:g (bF N ds) with
 |rl es=>rw[e1]at h;exact fun a ws H' G' x q g1 b1 h1 r1=>h a ws H' G' x g1 b1 h1 r1
 |_=>rw[e1]at h;exact h.elim
def JT(fs:au->Rs (List D)):au->Ou:=fun ρ=>oR (fs ρ) ρ fun ds=>if ds.length<=1000 then .rl ds else .no
section
variable{X:Cx}{K:ah}{B:Bs}{W:Wi}{σ:St}{G H G' H':Hp}{ρ:au}
theorem Zu{es:List ag}{pos lp:Pos}{f:au->Rs (List D)}(h:SA X B W es f):SS X B W (.Return (some (.List es lp)) pos) (JT f):=by
 refine PS.imp (Vy (VG h)) fun De σ H ⟨ρ,G,s,p⟩=>⟨ρ,G,s,?_⟩
 unfold JT at p;cases e:f ρ with
 |ok ds =>
  rw[e]at p;have p':cI X.K B W G (if ds.length<=1000 then .rl ds else .no) De:=p;by_cases hl:ds.length<=1000
  ·rw[if_pos hl]at p';intro vs H' G' x r;refine⟨by rw[<- r.length];exact Dm hl,fun c hc=>?_⟩;have s':=s.ext x;have y:=KN (xs:=vs) s'.en.gh s'.en.tp hc;exact p' c vs _ G' (s'.en.trans y) x.gg (s'.en.gh.free hc) (s'.en.hh.free hc) bA r
  ·rw[if_neg hl]at p';exact p'.elim
 |ex c n=>rw[e]at p;exact fun H' G' x=>p σ H' G' (s.ext x) x.gg
 |no=>rw[e]at p;exact p
theorem RQ{x:Str}{p pos:Pos}{e:ag}{es:List ag}{t:TA}{f:ab}{fd:b9}{ps:List Str}{k:Nat}{sp:Sp}(F:GF X.prog X.w X.K X.mg X.base (Gy X.prog X.w X.K) k f fd ps sp)(hr:lJ k X.A)(hg:Gl X x)(hm:X.mg x=some (.ref f))(hk:f_ X.K (.ref f)=true)(hb:Binds X.K fd ps [])
  (ha:PA X (e::es) t) (hdb:(x == ("__debug__":Str))=false:=by decide) (he:a9 (e::es) X.env=(false,aS e X.env)::a9 es X.env:=by rfl) (hpl:(c6 pos (a9 es X.env)).any (·.1)=false:=by rfl) :
  PE X (.Call (.Name x p) (e::es) [] pos) (fun σ H Q=>t σ H fun vs H1=>sp vs H1 Q fun _ _ _=>False):=by
 intro pins s σ H Q I h;refine m_ (Yq I hg hm ?_ hdb);refine PySem.W.callWith_K (h₀:=X.base) I.ok.mod.kin hk (jD (ha pos pins s σ H _ I h) fun us s1 ⟨vs,H1,I1,r,q⟩=>⟨I1.Vu,?_⟩) he hpl;have hl:(us++[]).length=ps.length:=by rw[gc,<- r.length];exact F.len _ _ _ _ q
 have hbb:=hb s1 us I1.Vu hl;rw[gc]at hbb;refine o_ (lh (F.run X.A X.stack s1 H1 ⟨us,[]⟩ us vs Q _ hr I1.env0 hbb r q) fun r s' hq=>?_);cases r with
 |error e=>obtain⟨ea,c,n,H',_,_,_,_,_,_,w⟩:=hq;exact w.elim
 |ok fl =>
  cases fl with
  |ret u=>exact I1.after hq
  |next=>exact fE hq
  |brk=>exact fE hq
  |cont=>exact fE hq
def RT(i n:Nat)(g:List D->Rs (List D))(fs:au->Rs (List D)):au->Ou:=fun ρ=>oR (fs ρ) ρ fun ds=>if ds.length=n then (match g ds with|.ok es=>.nx (ρ.set i (.ow es))|_=>.no) else .no
theorem agq(i:Nat){x y:Str}{p pos pos' cp:Pos}{e:ag}{es:List ag}{fs:au->Rs (List D)}{k n:Nat}{g:List D->Rs (List D)}(O:Okf X.prog X.w X.K X.mg X.base x k n g)(hr:lJ k X.A)(hN:X.N.Nodup)(ha:SA X B W (e::es) fs)(hi:X.N[i]?=some y:=by rfl)(hx:Kw X.env.scope y:=by first|exact Or.inl rfl|exact Or.inr rfl)
  (hs:d6 (.Call (.Name x p) (e::es) [] cp) (some (.Name y pos')) pos.line X.env=pure false:=by rfl) (hf:X.fn y=true∨X.env.scope.names.lookup y=some .local:=by first|exact .inl rfl|exact .inr rfl|assumption) (hg:Gl X x:=by rfl) (hdb:(x == ("__debug__":Str))=false:=by decide)
  (he:a9 (e::es) X.env=(false,aS e X.env)::a9 es X.env:=by rfl) (hpl:(c6 cp (a9 es X.env)).any (·.1)=false:=by rfl) :
  SS X B W (.Assign [.Name y pos'] (.Call (.Name x p) (e::es) [] cp) pos) (RT i n g fs):=by
 obtain⟨f,fd,ps,F,hm,hk,hb⟩:=O;refine PS.imp (yj hN hi hx (RQ F hr hg hm hk hb ha hdb he hpl) hs hf) fun De σ H ⟨ρ,G,s,p⟩=>⟨ρ,G,s,?_⟩
 unfold RT at p;cases e:fs ρ with
 |ok ds =>
  rw[e]at p;dsimp only[oR]at p;by_cases hl:ds.length=n
  ·rw[if_pos hl]at p;intro vs H1 G1 x r;refine⟨by rw[<- r.length];exact hl,G1,ds,(s.ext x).ex0,r,?_⟩;cases e1:g ds with
   |ok es' =>
    rw[e1]at p;dsimp only at p ⊢;intro a ws H' G' y g1 h1 h2 r2;have s1:=s.ext x
    let H2:Hp:=msk H' a
    have y2:Ext G1 H1 G' H2:=⟨y.gg,fun b o w=>by
      show msk H' a b=some o;rw[qD (aY w h1)];exact y.hh b o w,fun b o w=>by
      show msk H' a b=some o;rw[qD (aY w g1)];exact y.gh b o w,fun b xs w=>y.tp b xs (RN w).2,y.nw⟩
    have s2:=(s1.ext y2).acn (i:=i) (p:=a) r2 Fd;have e2:upd H2 a (.lst ws)=H':=by
     funext b;by_cases w:b=a
     ·subst w;rw[bA];exact h2.symm
     ·rw[aZ w];exact qD w
    rw[e2]at s2;exact p _ H' G' s2 (x.gg.trans y.gg)
   |ex c m=>rw[e1]at p;exact p.elim
   |no=>rw[e1]at p;exact p.elim
  ·rw[if_neg hl]at p;exact p.elim
 |ex c m=>rw[e]at p;exact fun H1 G1 x=>p σ H1 G1 (s.ext x) x.gg
 |no=>rw[e]at p;exact p
end
def lf{α:Type}(r:Rs α)(ρ:au):Rs (α×au):=match r with
 | .ok a=>.ok (a,ρ)
 |_=>.no
def bx{α β:Type}(r:Rs (α×au))(k:α->au->Rs (β×au)):Rs (β×au):=match r with
 | .ok (a,ρ)=>k a ρ
 |_=>.no
def oX{α:Type}(r:Rs (α×au))(k:α->au->Ou):Ou:=match r with
 | .ok (a,ρ)=>k a ρ
 |_=>.no
def lQ(K:ah)(B:Bs)(σ:St)(G:Hp)(r:Rs (D×au))(Q:VK):Prop:=match r with
 | .ok (d,ρ')=>∀v H' G',SR K B σ H' ρ' G'->Same G G'->Rep K G' d v->Q v H'
 |_=>False
def jK(K:ah)(B:Bs)(σ:St)(G:Hp)(r:Rs (List D×au))(Q:List V->Hp->Prop):Prop:=match r with
 | .ok (ds,ρ')=>∀vs H' G',SR K B σ H' ρ' G'->Same G G'->bL K G' ds vs->Q vs H'
 |_=>False
def jL(K:ah)(B:Bs)(σ:St)(G:Hp)(r:Rs (Bool×au))(Q:Bool->Hp->Prop):Prop:=match r with
 | .ok (b,ρ')=>∀H' G',SR K B σ H' ρ' G'->Same G G'->Q b H'
 |_=>False
def tX(K:ah)(B:Bs)(f:au->Rs (D×au)):TE:=fun σ H Q=>∃ρ G,SR K B σ H ρ G/\lQ K B σ G (f ρ) Q
def tAX(K:ah)(B:Bs)(f:au->Rs (List D×au)):TA:=fun σ H Q=>∃ρ G,SR K B σ H ρ G/\jK K B σ G (f ρ) Q
def tTX(K:ah)(B:Bs)(f:au->Rs (Bool×au)):TT:=fun σ H Q=>∃ρ G,SR K B σ H ρ G/\jL K B σ G (f ρ) Q
def SX(X:Cx)(B:Bs)(e:ag)(f:au->Rs (D×au)):Prop:=PE X e (tX X.K B f)
def SAX(X:Cx)(B:Bs)(es:List ag)(f:au->Rs (List D×au)):Prop:=PA X es (tAX X.K B f)
def STX(X:Cx)(B:Bs)(e:ag)(f:au->Rs (Bool×au)):Prop:=PT X e (tTX X.K B f)
def SWX(X:Cx)(B:Bs)(e:ag)(f:au->Rs (Bool×au)):Prop:=PW X e (tTX X.K B f)
def xP(f:au->Rs D):au->Rs (D×au):=fun ρ=>lf (f ρ) ρ
def sS(f:au->Rs (List D)):au->Rs (List D×au):=fun ρ=>lf (f ρ) ρ
def xPT(f:au->Rs Bool):au->Rs (Bool×au):=fun ρ=>lf (f ρ) ρ
def oN(g:D->D->Rs D)(fa fb:au->Rs (D×au)):au->Rs (D×au):=fun ρ=>bx (fa ρ) fun x ρ1=>bx (fb ρ1) fun y ρ2=>lf (g x y) ρ2
def yJ:au->Rs (List D×au):=fun ρ=>.ok ([],ρ)
def gG(f:au->Rs (D×au))(fs:au->Rs (List D×au)):au->Rs (List D×au):=fun ρ=>bx (f ρ) fun x ρ1=>bx (fs ρ1) fun xs ρ2=>.ok (x::xs,ρ2)
def xA(fs:au->Rs (List D×au))(g:List D->Rs D):au->Rs (D×au):=fun ρ=>bx (fs ρ) fun ds ρ1=>lf (g ds) ρ1
def xT(f:au->Rs (D×au)):au->Rs (Bool×au):=fun ρ=>bx (f ρ) fun d ρ1=>lf (toB d) ρ1
def aaR(a b:au->Rs (Bool×au)):au->Rs (Bool×au):=fun ρ=>bx (a ρ) fun x ρ1=>if x=true then b ρ1 else .ok (false,ρ1)
def xM(i n:Nat)(g:List D->List D->Rs (D×List D))(fs:au->Rs (List D×au)):au->Rs (D×au):=fun ρ=>match ρ[i]? with
 |some z0=>(match lent z0 with
  |some _=>bx (fs ρ) fun ds ρ1=>if ds.length=n then (match ρ1[i]? with
   |some z=>(match lent z with
    |some es=>(match g es ds with
     | .ok (d,es')=>.ok (d,ρ1.set i (iK z es'))
     |_=>.no)
    |none=>.no)
   |none=>.no) else .no
  |none=>.no)
 |none=>.no
section
variable{X:Cx}{K:ah}{B:Bs}{W:Wi}{σ:St}{G H G' H':Hp}{ρ:au}
theorem lQ.same{r:Rs (D×au)}{Q:VK}(h:lQ K B σ G r Q)(e:Same G G'):lQ K B σ G' r Q:=by
 cases r with
 |ok p=>obtain⟨d,ρ'⟩:=p;exact fun v H' G'' s q=>h v H' G'' s (e.trans q)
 |_=>exact h
theorem jK.same{r:Rs (List D×au)}{Q:List V->Hp->Prop}(h:jK K B σ G r Q)(e:Same G G'):jK K B σ G' r Q:=by
 cases r with
 |ok p=>obtain⟨d,ρ'⟩:=p;exact fun v H' G'' s q=>h v H' G'' s (e.trans q)
 |_=>exact h
theorem jL.same{r:Rs (Bool×au)}{Q:Bool->Hp->Prop}(h:jL K B σ G r Q)(e:Same G G'):jL K B σ G' r Q:=by
 cases r with
 |ok p=>obtain⟨d,ρ'⟩:=p;exact fun H' G'' s q=>h H' G'' s (e.trans q)
 |_=>exact h
theorem Mu{r:Rs D}{Q:VK}(s:SR K B σ H ρ G)(p:lQ K B σ G (lf r ρ) Q):Post K W σ G H r Q:=by
 cases r with
 |ok d=>exact fun v H' G' e r=>p v H' G' (s.ext e) e.gg r
 |ex c n=>exact p.elim
 |no=>exact p.elim
theorem ahT{r:Rs (D×au)}{k:D->au->Rs (D×au)}{Q:VK}{Q':VK}(p:lQ K B σ G (bx r k) Q)(h:∀d ρ1 v H1 G1,SR K B σ H1 ρ1 G1->Same G G1->Rep K G1 d v->lQ K B σ G1 (k d ρ1) Q->Q' v H1):lQ K B σ G r Q':=by
 cases r with
 |ok x=>obtain⟨d,ρ1⟩:=x;exact fun v H1 G1 s q r=>h d ρ1 v H1 G1 s q r (lQ.same (show lQ K B σ G (k d ρ1) Q from p) q)
 |ex c n=>exact p.elim
 |no=>exact p.elim
theorem ajJ{r:Rs (D×au)}{k:D->au->Rs (Bool×au)}{Q:Bool->Hp->Prop}{Q':VK}(p:jL K B σ G (bx r k) Q)(h:∀d ρ1 v H1 G1,SR K B σ H1 ρ1 G1->Same G G1->Rep K G1 d v->jL K B σ G1 (k d ρ1) Q->Q' v H1):lQ K B σ G r Q':=by
 cases r with
 |ok x=>obtain⟨d,ρ1⟩:=x;exact fun v H1 G1 s q r=>h d ρ1 v H1 G1 s q r (jL.same (show jL K B σ G (k d ρ1) Q from p) q)
 |ex c n=>exact p.elim
 |no=>exact p.elim
theorem adN{r:Rs (List D×au)}{k:List D->au->Rs (D×au)}{Q:VK}{Q':List V->Hp->Prop}(p:lQ K B σ G (bx r k) Q)(h:∀d ρ1 v H1 G1,SR K B σ H1 ρ1 G1->Same G G1->bL K G1 d v->lQ K B σ G1 (k d ρ1) Q->Q' v H1):jK K B σ G r Q':=by
 cases r with
 |ok x=>obtain⟨d,ρ1⟩:=x;exact fun v H1 G1 s q r=>h d ρ1 v H1 G1 s q r (lQ.same (show lQ K B σ G (k d ρ1) Q from p) q)
 |ex c n=>exact p.elim
 |no=>exact p.elim
theorem agr{r:Rs (List D×au)}{k:List D->au->Rs (List D×au)}{Q:List V->Hp->Prop}{Q':List V->Hp->Prop}(p:jK K B σ G (bx r k) Q)(h:∀d ρ1 v H1 G1,SR K B σ H1 ρ1 G1->Same G G1->bL K G1 d v->jK K B σ G1 (k d ρ1) Q->Q' v H1):jK K B σ G r Q':=by
 cases r with
 |ok x=>obtain⟨d,ρ1⟩:=x;exact fun v H1 G1 s q r=>h d ρ1 v H1 G1 s q r (jK.same (show jK K B σ G (k d ρ1) Q from p) q)
 |ex c n=>exact p.elim
 |no=>exact p.elim
theorem ags{r:Rs (D×au)}{k:D->au->Rs (List D×au)}{Q:List V->Hp->Prop}{Q':VK}(p:jK K B σ G (bx r k) Q)(h:∀d ρ1 v H1 G1,SR K B σ H1 ρ1 G1->Same G G1->Rep K G1 d v->jK K B σ G1 (k d ρ1) Q->Q' v H1):lQ K B σ G r Q':=by
 cases r with
 |ok x=>obtain⟨d,ρ1⟩:=x;exact fun v H1 G1 s q r=>h d ρ1 v H1 G1 s q r (jK.same (show jK K B σ G (k d ρ1) Q from p) q)
 |ex c n=>exact p.elim
 |no=>exact p.elim
theorem agt{r:Rs (Bool×au)}{k:Bool->au->Rs (Bool×au)}{Q:Bool->Hp->Prop}{Q':Bool->Hp->Prop}(p:jL K B σ G (bx r k) Q)(h:∀d ρ1 H1 G1,SR K B σ H1 ρ1 G1->Same G G1->jL K B σ G1 (k d ρ1) Q->Q' d H1):jL K B σ G r Q':=by
 cases r with
 |ok x=>obtain⟨d,ρ1⟩:=x;exact fun H1 G1 s q=>h d ρ1 H1 G1 s q (jL.same (show jL K B σ G (k d ρ1) Q from p) q)
 |ex c n=>exact p.elim
 |no=>exact p.elim
theorem jE{e:ag}{f:au->Rs D}(h:SE X B W e f):SX X B e (xP f):=PE.imp h fun σ H Q ⟨ρ,G,s,p⟩=>⟨ρ,G,s,Mu s p⟩
theorem amk{e:ag}{f:au->Rs Bool}(h:ST X B W e f):STX X B e (xPT f):=PT.imp h fun σ H Q ⟨ρ,G,s,p⟩=>by
 refine⟨ρ,G,s,?_⟩;unfold xPT at p;cases e1:f ρ with
 |ok b=>rw[e1]at p;exact fun H' G' y=>p H' G' (s.ext y) y.gg
 |ex c n=>rw[e1]at p;exact p.elim
 |no=>rw[e1]at p;exact p.elim
theorem fG{es:List ag}{f:au->Rs (List D)}(h:SA X B W es f):SAX X B es (sS f):=PA.imp h fun σ H Q ⟨ρ,G,s,p⟩=>by
 refine⟨ρ,G,s,?_⟩;unfold sS at p;cases e1:f ρ with
 |ok b=>rw[e1]at p;exact fun vs H' G' y r=>p vs H' G' (s.ext y) y.gg r
 |ex c n=>rw[e1]at p;exact p.elim
 |no=>rw[e1]at p;exact p.elim
theorem CG{r:R2}{g:D->D->Rs D}{fa fb:au->Rs (D×au)}{Q:VK}(ho:QB K r g)(h:tX K B (oN g fa fb) σ H Q):tOp r (tX K B fa) (tX K B fb) σ H Q:=by obtain⟨ρ,G,s,p⟩:=h;refine⟨ρ,G,s,ahT (k:=fun x ρ1=>bx (fb ρ1) fun y ρ2=>lf (g x y) ρ2) p fun d ρ1 v H1 G1 s1 q1 r1 p1=>⟨ρ1,G1,s1,ahT (k:=fun y ρ2=>lf (g d y) ρ2) p1 fun d' ρ2 u H2 G2 s2 q2 r2 p2=>?_⟩⟩;exact ho B WF σ ρ2 G2 H2 d d' v u Q s2 (r1.mono q2) r2 (Mu s2 p2)
theorem adO{a b:ag}{op:Operator}{pos:Pos}{r:R2}{g:D->D->Rs D}{fa fb:au->Rs (D×au)}(ho:uL X (gL op) r)(hg:QB X.K r g)(ha:SX X B a fa)(hb:SX X B b fb):SX X B (.BinOp a op b pos) (oN g fa fb) :=
 PE.imp (ahy ho ha hb) fun _ _ _ h=>CG hg h
theorem ajK{a b:ag}{op:i3}{pos:Pos}{r:R2}{g:D->D->Rs D}{fa fb:au->Rs (D×au)}(ho:uL X (eR op) r)(hg:QB X.K r g)(ha:SX X B a fa)(hb:SX X B b fb)(hm:ij op b=false):SX X B (.Compare a [op] [b] pos) (oN g fa fb) :=
 PE.imp (Yu ho ha hb hm) fun _ _ _ h=>CG hg h
theorem ajL{f:au->Rs (D×au)}{Q:Bool->Hp->Prop}(h:tTX K B (xT f) σ H Q):tX K B f σ H fun x H1=>∃c,x=.bl c/\Q c H1:=by
 obtain⟨ρ,G,s,p⟩:=h;refine⟨ρ,G,s,ajJ (k:=fun d ρ1=>lf (toB d) ρ1) p fun d ρ1 v H1 G1 s1 q1 r1 p1=>?_⟩;cases d with
 |bl b=>exact⟨b,bK.mp r1,p1 H1 G1 s1 (.refl _)⟩
 |_=>exact p1.elim
theorem Zv{a b:ag}{op:i3}{pos:Pos}{r:R2}{g:D->D->Rs D}{fa fb:au->Rs (D×au)}(ho:uL X (eR op) r)(hg:QB X.K r g)(ha:SX X B a fa)(hb:SX X B b fb)(hm:ij op b=false):STX X B (.Compare a [op] [b] pos) (xT (oN g fa fb)):=by refine PT.imp (KC ho ha hb hm) fun σ H Q h=>?_;exact CG hg (ajL h)
theorem adP{a:ag}{pos:Pos}{fa:au->Rs (Bool×au)}(ha:STX X B a fa):SWX X B (.BoolOp .And [a] pos) fa:=afn ha
theorem agu{a b:ag}{rest:List ag}{pos:Pos}{fa fb:au->Rs (Bool×au)}(ha:STX X B a fa)(hb:SWX X B (.BoolOp .And (b::rest) pos) fb):SWX X B (.BoolOp .And (a::b::rest) pos) (aaR fa fb):=by
 refine PW.imp (aip ha hb) fun σ H Q ⟨ρ,G,s,p⟩=>⟨ρ,G,s,agt (k:=fun x ρ1=>if x=true then fb ρ1 else .ok (false,ρ1)) p fun x ρ1 H1 G1 s1 q1 p1=>?_⟩
 cases x with
 |true=>rw[if_pos rfl];exact⟨ρ1,G1,s1,p1⟩
 |false=>rw[if_neg (by simp)];exact p1 H1 G1 s1 (.refl _)
theorem aml{e:ag}{f:au->Rs (Bool×au)}(h:SWX X B e f):STX X B e f:=PW.pt h
theorem mR:SAX X B [] yJ:=PA.imp gP fun σ H Q ⟨ρ,G,s,p⟩=>p [] H G s (.refl _) (bG.mpr rfl)
theorem cU{e:ag}{es:List ag}{fe:au->Rs (D×au)}{fs:au->Rs (List D×au)}(ha:SX X B e fe)(hr:SAX X B es fs)(hs:a9 (e::es) X.env=(false,aS e X.env)::a9 es X.env:=by rfl):SAX X B (e::es) (gG fe fs):=by
 refine PA.imp (dg ha hr hs) fun σ H Q ⟨ρ,G,s,p⟩=>⟨ρ,G,s,ags (k:=fun x ρ1=>bx (fs ρ1) fun xs ρ2=>.ok (x::xs,ρ2)) p fun d ρ1 v H1 G1 s1 q1 r1 p1=>⟨ρ1,G1,s1,agr (k:=fun xs ρ2=>.ok (d::xs,ρ2)) p1 fun ds ρ2 vs H2 G2 s2 q2 r2 p2=>?_⟩⟩
 exact p2 (v::vs) H2 G2 s2 (.refl _) (aQ.mpr ⟨v,vs,rfl,r1.mono q2,r2⟩)
theorem ajM{t:au->Rs (List D×au)}{g:List D->Rs D}{r:List V->Hp->VK->Prop}{Q:VK}(hg:rQ K r g)(h:tX K B (xA t g) σ H Q):tAX K B t σ H fun vs H1=>r vs H1 Q:=by obtain⟨ρ,G,s,p⟩:=h;exact⟨ρ,G,s,adN (k:=fun ds ρ1=>lf (g ds) ρ1) p fun ds ρ1 vs H1 G1 s1 q1 r1 p1=>hg B WF σ ρ1 G1 H1 ds vs Q s1 r1 (Mu s1 p1)⟩
theorem ajN:rQ K (fun xs H1 Q=>xs.length<=sizeLine/\∀p,H1 p=none->Q (.ref p) (upd H1 p (.tup xs))) dH:=by
 intro B W σ ρ G H ds vs Q s r p;unfold dH at p;by_cases hl:ds.length<=1000
 ·rw[if_pos hl]at p;refine⟨by rw[<- r.length];exact Dm hl,fun a ha=>?_⟩;have x:=Cp (xs:=vs) s.en.gh s.en.tp ha;exact p _ _ _ x (bw.mpr ⟨a,vs,rfl,.of bA,r.mono x.gg⟩)
 ·rw[if_neg hl]at p;exact p.elim
theorem vD{es:List ag}{x1}{pos:Pos}{f:au->Rs (List D×au)}(h:SAX X B es f):SX X B (.Tuple es x1 pos) (xA f dH):=PE.imp (abL h) fun σ H Q q=>ajM ajN q
theorem adQ{a b:ag}{pos:Pos}{fa fb:au->Rs (D×au)}(ha:SX X B a fa)(hb:SX X B b fb)(hs:vU b:=by intro _ _;rfl):SX X B (.Subscript a b pos) (oN fY fa fb) :=
 PE.imp (Yy VJ ha hb hs) fun _ _ _ h=>CG abZ h
section
variable{x:Str}{p pos:Pos}{e:ag}{es:List ag}{id T:String}{r:List V->Hp->VK->Prop}{g:List D->Rs D}{fs:au->Rs (List D×au)}
end
theorem bN(i:Nat) {x y:Str}{p py pos:Pos}{es:List ag}{fs:au->Rs (List D×au)}{k n:Nat}{g:List D->List D->Rs (D×List D)}(O:WW X.prog X.w X.K X.mg X.base x k n g) (hr:lJ k X.A) (ha:SAX X B es fs) (hN:X.N[i]?=some y:=by rfl) (hv:Kv X.env.scope y:=by first|exact Or.inl rfl|exact Or.inr (Or.inl rfl)|exact Or.inr (Or.inr rfl)) (hd:(y == ("__debug__":Str))=false:=by decide)
  (hcd:(y == ("__classdict__":Str))=false:=by decide) (hg:Gl X x:=by rfl) (hdb:(x == ("__debug__":Str))=false:=by decide)
  (he:a9 (.Name y py::es) X.env=(false,aS (.Name y py) X.env)::a9 es X.env:=by rfl) (hpl:(c6 pos (a9 es X.env)).any (·.1)=false:=by rfl):SX X B (.Call (.Name x p) (.Name y py::es) [] pos) (xM i n g fs):=by
 obtain⟨f,fd,ps,F,hm,hk,hb⟩:=O;refine PE.imp (RQ F hr hg hm hk hb (dg (gO (pos:=py) hN hv hd hcd) ha he) hdb he hpl) fun σ H Q ⟨ρ,G,s,p⟩=>?_;unfold xM at p;cases q:ρ[i]? with
 |none=>rw[q]at p;exact p.elim
 |some z0 =>
  rw[q]at p;dsimp only at p;cases q1:lent z0 with
  |none=>rw[q1]at p;exact p.elim
  |some es0 =>
   rw[q1]at p;dsimp only at p;obtain⟨a,vs0,h1,h2,h3,h4,h5⟩:=s.lent q q1;refine⟨_,h1,ρ,G,s,adN (k:=fun ds ρ1=>if ds.length=n then (match ρ1[i]? with
    |some z=>(match lent z with
     |some es=>(match g es ds with
      | .ok (d,es')=>.ok (d,ρ1.set i (iK z es'))
      |_=>.no)
     |none=>.no)
    |none=>.no) else .no) p fun ds ρ1 us H1 G1 s1 e1 r1 p1=>?_⟩
   by_cases hl:ds.length=n
   ·rw[if_pos hl]at p1;cases q2:ρ1[i]? with
    |none=>rw[q2]at p1;exact p1.elim
    |some z =>
     rw[q2]at p1;dsimp only at p1;cases q3:lent z with
     |none=>rw[q3]at p1;exact p1.elim
     |some es1 =>
      rw[q3]at p1;dsimp only at p1;obtain⟨b,ws,k1,k2,k3,k4,k5⟩:=s1.lent q2 q3;have eb:b=a:=by rw[h1]at k1;injection k1 with z;injection z with z;injection z with z;exact z.symm
      subst eb;refine⟨by simp[<- r1.length,hl],b,us,G1,ws,es1,ds,rfl,s1.ex0,k3,k2,k5,r1,?_⟩;cases q4:g es1 ds with
      |no=>rw[q4]at p1;exact p1.elim
      |ex c m=>rw[q4]at p1;exact p1.elim
      |ok dz =>
       obtain⟨d,es2⟩:=dz;rw[q4]at p1;exact fun v H' G' ws' y g1 h' r2 r3=>p1 v H' G' (s1.back q2 q3 k1 y g1 h' r2) y.gg r3
   ·rw[if_neg hl]at p1;exact p1.elim
variable{a b:ag}{pos:Pos}{fa fb:au->Rs (D×au)}
theorem vG(ha:SX X B a fa)(hb:SX X B b fb):SX X B (.BinOp a .Add b pos) (oN cT fa fb):=adO YH QJ ha hb
theorem oU(ha:SX X B a fa)(hb:SX X B b fb):SX X B (.BinOp a .Sub b pos) (oN lH fa fb):=adO abI (Dh fun _ _ _=>aM.mpr rfl) ha hb
theorem ajO(ha:SX X B a fa)(hb:SX X B b fb):SX X B (.BinOp a .Mult b pos) (oN jG fa fb):=adO abJ (QC fun _ _ _=>aM.mpr rfl) ha hb
def adR(j:Nat)(f:au->Rs D):au->Rs D:=fun ρ=>match ρ[j]? with
 |some z=>(match lent z with|some ds=>(f ρ).bind fun k=>fY (.lst ds) k|none=>.no)
 |none=>.no
theorem ajP(j:Nat) {x:Str}{b:ag}{p1 pos:Pos}{fb:au->Rs D}(hb:SE X B W b fb) (hN:X.N[j]?=some x:=by rfl) (hv:Kv X.env.scope x:=by first|exact Or.inl rfl|exact Or.inr (Or.inl rfl)|exact Or.inr (Or.inr rfl)) (hd:(x == ("__debug__":Str))=false:=by decide)
  (hcd:(x == ("__classdict__":Str))=false:=by decide) (hs:vU b:=by intro _ _;rfl):SE X B W (.Subscript (.Name x p1) b pos) (adR j fb):=by
 refine PE.imp (Yy VJ (gO (pos:=p1) hN hv hd hcd) hb hs) fun σ H Q ⟨ρ,G,s,p⟩=>?_;unfold adR at p;cases q:ρ[j]? with
 |none=>rw[q]at p;exact p.elim
 |some z =>
  rw[q]at p;dsimp only at p;cases q1:lent z with
  |none=>rw[q1]at p;exact p.elim
  |some ds =>
   rw[q1]at p;obtain⟨a,vs,h1,h2,h3,h4,h5⟩:=s.lent q q1;refine⟨_,h1,ρ,G,s,?_⟩;refine Post.mono (Post.bind (k:=fun k=>fY (.lst ds) k) p) fun v H1 ⟨G1,d,y,r,p1⟩=>?_;cases d with
   |int i =>
    simp only[fY]at p1;cases e:Cm ds i with
    |none=>rw[e]at p1;exact p1.elim
    |some d =>
     rw[e]at p1;obtain⟨w,e2,rw'⟩:=Dp h5 e;exact .inl ⟨a,vs,i,w,rfl,aM.mp r,.of (y.hh _ _ h2),e2,p1 _ H1 G1 (.refl y.gh y.tp) (rw'.mono y.gg)⟩
   |_=>exact p1.elim
end
end Vl
namespace Vl
open PySem PySem.Spec PySem.Calls PySem.W L2 So
def vH(f:au->Rs (D×au)):au->Ou:=fun ρ=>oX (f ρ) fun d ρ1=>.rx d ρ1
def yK(i:Nat)(f:au->Rs (D×au)):au->Ou:=fun ρ=>oX (f ρ) fun d ρ1=>.nx (ρ1.set i (.fz d))
def xIf(c:au->Rs (Bool×au))(a b:au->Ou):au->Ou:=fun ρ=>oX (c ρ) fun x ρ1=>if x=true then a ρ1 else b ρ1
def JV(h:Tg)(gb:au->Ou)(f:au->Rs (D×au)):au->Ou:=fun ρ=>oX (f ρ) fun d ρ1=>match d with|.int n=>if-(2 ^ 62)<=n/\n < 2 ^ 62 then dD h gb ((bu n.toNat).map fun(i:Nat)=>.int i) ρ1 else .no|_=>.no
def Fi(j:Nat)(fe:au->Rs D)(fk:au->Rs (D×au)):au->Ou:=fun ρ=>oR (fe ρ) ρ fun v=>match ρ[j]? with
 |some (.od _)=>oX (fk ρ) fun k ρ1=>(match mq k,ρ1[j]? with
  |some ks,some (.od kvs)=>if kvs.length<=1000000 then .nx (ρ1.set j (.od (jh kvs ks v))) else .no
  |_,_=>.no)
 |_=>.no
def JW(i:Nat)(f:au->Rs (D×au)):au->Ou:=fun ρ=>match ρ[i]? with
 |some (.ow _)=>oX (f ρ) fun k ρ1=>(match k,ρ1[i]? with
  | .int k,some (.ow ds)=>if 0<=k/\k < ds.length/\ds.length<=1000000 then .nx (ρ1.set i (.ow (ds.eraseIdx k.toNat))) else .no
  |_,_=>.no)
 |_=>.no
def RV(i j:Nat)(f fk:au->Rs D):au->Ou:=fun ρ=>oR (f ρ) ρ fun d=>match d with
 | .tup [q,r]=>(match ρ[i]? with
  |some z=>(match lent z with
   |some ds=>oR (fk ρ) ρ fun k=>(match k with
    | .int k=>(match Jj ds.length k with|some m=>.nx ((ρ.set i (iK z (ds.set m q))).set j (.fz r))|none=>.no)
    |_=>.no)
   |none=>.no)
  |none=>.no)
 |_=>.no
def Fj(i j:Nat):au->Ou:=fun ρ=>match ρ[j]? with
 |some (.od kvs)=>if kvs.length < 1000/\∀p∈kvs,p.1≠[] then .nx (ρ.set i (.ow ((cu (kvs.map (·.1))).map aj))) else .no
 |_=>.no
section
variable{X:Cx}{K:ah}{B:Bs}{W:Wi}{σ:St}{G H G' H':Hp}{ρ:au}{De:Ends}
theorem sU{r:Rs (D×au)}{k:D->au->Ou}{Q:VK}(p:cI K B W G (oX r k) De)(h:∀d ρ1 v H1 G1,SR K B σ H1 ρ1 G1->Same G G1->Rep K G1 d v->cI K B W G1 (k d ρ1) De->Q v H1):lQ K B σ G r Q:=by
 cases r with
 |ok x=>obtain⟨d,ρ1⟩:=x;exact fun v H1 G1 s q r=>h d ρ1 v H1 G1 s q r (cI.same (show cI K B W G (k d ρ1) De from p) q)
 |ex c n=>exact p.elim
 |no=>exact p.elim
theorem aaS{r:Rs (Bool×au)}{k:Bool->au->Ou}{Q:Bool->Hp->Prop}(p:cI K B W G (oX r k) De)(h:∀d ρ1 H1 G1,SR K B σ H1 ρ1 G1->Same G G1->cI K B W G1 (k d ρ1) De->Q d H1):jL K B σ G r Q:=by
 cases r with
 |ok x=>obtain⟨d,ρ1⟩:=x;exact fun H1 G1 s q=>h d ρ1 H1 G1 s q (cI.same (show cI K B W G (k d ρ1) De from p) q)
 |ex c n=>exact p.elim
 |no=>exact p.elim
theorem sV{e:ag}{pos}{f:au->Rs (D×au)}(h:SX X B e f):SS X B W (.Return (some e) pos) (vH f) :=
 PS.imp (Vy h) fun De σ H ⟨ρ,G,s,p⟩=>⟨ρ,G,s,sU (k:=fun d ρ1=>.rx d ρ1) p fun d ρ1 v H1 G1 s1 q1 r1 p1=>p1 v σ H1 G1 s1 (.refl _) r1⟩
theorem sW(i:Nat){x:Str}{e:ag}{pos pos':Pos}{f:au->Rs (D×au)}(hN:X.N.Nodup)(he:SX X B e f)(hi:X.N[i]?=some x:=by rfl)(hx:Kw X.env.scope x:=by first|exact Or.inl rfl|exact Or.inr rfl)(hs:d6 e (some (.Name x pos')) pos.line X.env=pure false:=by rfl)(hf:X.fn x=true∨X.env.scope.names.lookup x=some .local:=by first|exact .inl rfl|exact .inr rfl|assumption) :
  SS X B W (.Assign [.Name x pos'] e pos) (yK i f) :=
 PS.imp (yj hN hi hx he hs hf) fun De σ H ⟨ρ,G,s,p⟩=>⟨ρ,G,s,sU (k:=fun d ρ1=>.nx (ρ1.set i (.fz d))) p fun d ρ1 v H1 G1 s1 q1 r1 p1=>p1 _ H1 G1 (s1.set r1) (.refl _)⟩
theorem ahU{c:ag}{a b:List be}{pos:Pos}{fc:au->Rs (Bool×au)}{ga gb:au->Ou}(hc:STX X B c fc)(ha:uM X B W a ga)(hb:uM X B W b gb):SS X B W (.If c a b pos) (xIf fc ga gb):=by
 refine PS.imp (ahw hc ha hb) fun De σ H ⟨ρ,G,s,p⟩=>⟨ρ,G,s,aaS (k:=fun x ρ1=>if x=true then ga ρ1 else gb ρ1) p fun x ρ1 H1 G1 s1 q1 p1=>?_⟩
 cases x with
 |true=>rw[if_pos rfl]at p1 ⊢;exact⟨ρ1,G1,s1,p1⟩
 |false=>rw[if_neg (by simp)]at p1 ⊢;exact⟨ρ1,G1,s1,p1⟩
theorem Mv{tg e:ag}{body:List be}{pos p1 p2:Pos}{f:au->Rs (D×au)}{h:Tg}{gb:au->Ou}(hp:ki (ar X.prog X.w) X.A X.env X.xe) (hc:X.calm=true) (hm:X.mg "range"=none) (hi:SX X B e f) (hg:SG X B tg h) (hb:uM X B W body gb)
  (hgl:Gl X "range":=by rfl) (hst:a9 [e] X.env=[(false,aS e X.env)]:=by rfl)
  (hs:∀x,fw (.Call (.Name "range" p1) [e] [] p2) X.env x=pure x:=by intro _;rfl):SS X B W (.For tg (.Call (.Name "range" p1) [e] [] p2) body [] pos) (JV h gb f):=by
 refine PS.imp (yq hp hc (Je hgl hm (dg hi gP (by rw[hst];rfl)) hst) hg hb hs) fun De σ H ⟨ρ,G,s,p⟩=>?_;refine⟨ρ,G,s,sU (k:=fun d ρ1=>match d with|.int n=>if-(2 ^ 62)<=n/\n < 2 ^ 62 then dD h gb ((bu n.toNat).map fun(i:Nat)=>.int i) ρ1 else .no|_=>.no) p fun d ρ1 v H1 G1 s1 q1 r1 p1=>?_⟩;cases d with
 |int n =>
  dsimp only at p1;by_cases c:-(2 ^ 62)<=n/\n < 2 ^ 62
  ·rw[if_pos c]at p1;refine⟨n,by rw[aM.mp r1],c.1,c.2,vg s1 ?_⟩;simpa using p1
  ·rw[if_neg c]at p1;exact p1.elim
 |_=>exact p1.elim
theorem Zw(j:Nat) {e b:ag}{x:Str}{p1 tp pos:Pos}{fe:au->Rs D}{fk:au->Rs (D×au)}(hu:X.A.units + 8 < bo) (he:SE X B W e fe) (hb:SX X B b fk) (hN:X.N[j]?=some x:=by rfl) (hv:Kv X.env.scope x:=by first|exact Or.inl rfl|exact Or.inr (Or.inl rfl)|exact Or.inr (Or.inr rfl)) (hd:(x == ("__debug__":Str))=false:=by decide)
  (hcd:(x == ("__classdict__":Str))=false:=by decide)
  (hs:ke [.Subscript (.Name x p1) b tp] e pos.line X.env=pure false:=by rfl) (hw:kg [.Subscript (.Name x p1) b tp] e X.env=pure none:=by rfl)
  (h1:(dy [.Subscript (.Name x p1) b tp] X.env).map (·.2)=[assign (.Subscript (.Name x p1) b tp) X.env]:=by rfl)
  (ha:∀v,assign (.Subscript (.Name x p1) b tp) X.env v=(do
   let ov <- du [v] (aS (.Name x p1) X.env)
   let iv <- du [v,ov] (aS b X.env)
   kd tp
   du [v,ov,iv] (setItem ov iv v)
   release [v,ov,iv] []):=by intro _;rfl) :
  SS X B W (.Assign [.Subscript (.Name x p1) b tp] e pos) (Fi j fe fk):=by
 refine PS.imp (Kz he (Vz (gO (pos:=p1) hN hv hd hcd) hb (adD (Ez hu)) ha) hs hw h1) fun De σ H ⟨ρ,G,s,p⟩=>?_;unfold Fi at p;refine⟨ρ,G,s,iu s p fun d v H' G' _ y r p'=>?_⟩;cases e2:ρ[j]? with
 |none=>rw[e2]at p';exact p'.elim
 |some z =>
  rw[e2]at p';cases z with
  |od agv =>
   have s':=s.ext y;obtain⟨d0,U0,adE,h1,h2,_⟩:=s'.od e2;refine⟨_,h1,ρ,G',s',sU (k:=fun k ρ1=>(match mq k,ρ1[j]? with
    |some ks,some (.od kvs)=>if kvs.length<=1000000 then .nx (ρ1.set j (.od (jh kvs ks d))) else .no
    |_,_=>.no)) p' fun k ρ1 v2 H2 G2 s2 q2 r2 p2=>?_⟩
   cases e1:mq k with
   |none=>rw[e1]at p2;exact p2.elim
   |some ks =>
    rw[e1]at p2;cases e3:ρ1[j]? with
    |none=>rw[e3]at p2;exact p2.elim
    |some z1 =>
     rw[e3]at p2;cases z1 with
     |od kvs =>
      dsimp only at p2;by_cases hl:kvs.length<=1000000
      ·rw[if_pos hl]at p2;obtain⟨b',d1,U,bI,rfl,q1,q2',q3,q4,q5,q6,q7⟩:=WM s2 e3 s2.yt r2 e1;rw[h1]at q1;cases q1;refine⟨b',d0,ks,U,UG X.K G2,bI,rfl,rfl,q2',q4,q5,q6,q3,by rw[<- q7.len];exact hl,?_⟩;exact p2 σ _ G2 (s2.wj e3 rfl h1 rfl ⟨UG X.K G2,_,rfl,fun _ _ z=>z,q7.put (r.mono q2)⟩) (.refl _)
      ·rw[if_neg hl]at p2;exact p2.elim
     |_=>exact p2.elim
  |_=>exact p'.elim
theorem agw(i:Nat) {x:Str}{e:ag}{pos p1 p2 cp:Pos}{f:au->Rs (D×au)}(he:SX X B e f) (hN:X.N[i]?=some x:=by rfl) (hv:Kv X.env.scope x:=by first|exact Or.inl rfl|exact Or.inr (Or.inl rfl)|exact Or.inr (Or.inr rfl)) (hd:(x == ("__debug__":Str))=false:=by decide)
  (hcd:(x == ("__classdict__":Str))=false:=by decide) (hst:a9 [e] X.env=[(false,aS e X.env)]:=by rfl)
  (hbase:ku (.Name x p1) "pop" X.env (aS (.Name x p1) X.env)=aS (.Name x p1) X.env:=by rfl)
  (hfew:((c6 cp (a9 [e] X.env)).all (fun x=>!x.1) && (ik cp (il [] X.env)).all (fun x=>x.1.isSome)
   && decide (([e]:List ag).length + ([]:List i4).length + (if ([]:List i4).isEmpty then 0 else 1) < 30))=true:=by rfl)
  (hline:(p2.endLine == cp.line)=true:=by rfl) (hplain:(c6 cp (a9 [] X.env)).any (·.1)=false:=by rfl)
  (hs:d6 (.Call (.Attribute (.Name x p1) "pop" p2) [e] [] cp) none pos.line X.env=pure false:=by rfl) :
  SS X B W (.Expr (.Call (.Attribute (.Name x p1) "pop" p2) [e] [] cp) pos) (JW i f):=by
 refine PS.imp (Ky (abO vc PySem.F.slot_list_pop PySem.F.type_list_pop abQ (gO hN hv hd hcd) (dg he gP hst) hbase hfew hline hst hplain) hs) fun De σ H ⟨ρ,G,s,p⟩=>?_;unfold JW at p;cases q:ρ[i]? with
 |none=>rw[q]at p;exact p.elim
 |some z =>
  rw[q]at p;cases z with
  |ow ds0 =>
   obtain⟨a,vs0,e1,h2,h3,h4,h5⟩:=s.ow i ds0 q;refine⟨_,e1,.inl ⟨rfl,vs0,.of h2⟩,ρ,G,s,sU (k:=fun k ρ1=>(match k,ρ1[i]? with
    | .int k,some (.ow ds)=>if 0<=k/\k < ds.length/\ds.length<=1000000 then .nx (ρ1.set i (.ow (ds.eraseIdx k.toNat))) else .no
    |_,_=>.no)) p fun d ρ1 v H1 G1 s1 q1 r1 p1=>?_⟩
   cases d with
   |int k =>
    cases e3:ρ1[i]? with
    |none=>rw[e3]at p1;exact p1.elim
    |some z1 =>
     rw[e3]at p1;cases z1 with
     |ow ds =>
      dsimp only at p1;by_cases hc:0<=k/\k < ds.length/\ds.length<=1000000
      ·rw[if_pos hc]at p1;obtain⟨b,vs,k1,k2,k3,k4,k5⟩:=s1.ow i ds e3;have eb:b=a:=by rw[e1]at k1;injection k1 with z;injection z with z;injection z with z;exact z.symm
       subst eb;have hl:=k5.length;have hk:k.toNat < vs.length:=by lia
       have hix:nh k vs.length=some k.toNat:=(KD (n:=vs.length) (i:=k) (j:=k.toNat) (by unfold Jj;rw[if_pos (by lia),if_pos (by lia)])).1;rw[aM.mp r1];exact⟨b,vs,k,k.toNat,vs[k.toNat],rfl,rfl,k2,by lia,by lia,hix,d4 hk,p1 σ _ G1 (s1.write e3 e1 (bL.erase k.toNat k5)) (.refl _)⟩
      ·rw[if_neg hc]at p1;exact p1.elim
     |_=>exact p1.elim
   |_=>exact p1.elim
  |_=>exact p.elim
theorem agx(i j:Nat) {e b:ag}{x y:Str}{p1 p2 tp pt pos:Pos}{kt:Nat}{f fk:au->Rs D}(hc:X.calm=true) (hN:X.N.Nodup) (he:SE X B W e f) (hb:SE X B W b fk) (hi:X.N[i]?=some x:=by rfl) (hj:X.N[j]?=some y:=by rfl) (hv:Kv X.env.scope x:=by first|exact Or.inl rfl|exact Or.inr (Or.inl rfl)|exact Or.inr (Or.inr rfl)) (hd:(x == ("__debug__":Str))=false:=by decide)
  (hcd:(x == ("__classdict__":Str))=false:=by decide) (hy:Kw X.env.scope y:=by first|exact Or.inl rfl|exact Or.inr rfl) (hf:X.fn y=true∨X.env.scope.names.lookup y=some .local:=by first|exact .inl rfl|exact .inr rfl|assumption)
  (hs:ke [.Tuple [.Subscript (.Name x p1) b tp,.Name y p2] kt pt] e pos.line X.env=pure false:=by rfl) (hw:kg [.Tuple [.Subscript (.Name x p1) b tp,.Name y p2] kt pt] e X.env=pure none:=by rfl)
  (h1:(dy [.Tuple [.Subscript (.Name x p1) b tp,.Name y p2] kt pt] X.env).map (·.2)=[assign (.Tuple [.Subscript (.Name x p1) b tp,.Name y p2] kt pt) X.env]:=by rfl)
  (h2:(dy [.Subscript (.Name x p1) b tp,.Name y p2] X.env).map (·.2)=assign (.Subscript (.Name x p1) b tp) X.env::(dy [.Name y p2] X.env).map (·.2):=by rfl)
  (h3:(dy [.Name y p2] X.env).map (·.2)=assign (.Name y p2) X.env::(dy [] X.env).map (·.2):=by rfl)
  (h4:(dy [.Subscript (.Name x p1) b tp,.Name y p2] X.env).length=2:=by rfl) (h5:(dy [.Subscript (.Name x p1) b tp,.Name y p2] X.env).findIdx? (·.1)=none:=by rfl)
  (ha:∀v,assign (.Subscript (.Name x p1) b tp) X.env v=(do
   let ov <- du [v] (aS (.Name x p1) X.env)
   let iv <- du [v,ov] (aS b X.env)
   kd tp
   du [v,ov,iv] (setItem ov iv v)
   release [v,ov,iv] []):=by intro _;rfl) :
  SS X B W (.Assign [.Tuple [.Subscript (.Name x p1) b tp,.Name y p2] kt pt] e pos) (RV i j f fk):=by
 refine PS.imp (Kz he (abE hc (Dc (Vz (gO (pos:=p1) hi hv hd hcd) hb abN ha) (Dc (Yr hN hj hy hf) Ys h3) h2) h4 h5) hs hw h1) fun De σ H ⟨ρ,G,s,p⟩=>?_;unfold RV at p;refine⟨ρ,G,s,iu s p fun d v H' G' _ yx r p'=>?_⟩
 match d,p',r with
 | .tup [q,r0],p',r =>
  obtain⟨c,vs,rfl,hq,rr⟩:=bw.mp r;obtain⟨vq,vs1,rfl,rq,rr1⟩:=aQ.mp rr;obtain⟨vr,vs2,rfl,r2,rr2⟩:=aQ.mp rr1;cases bG.mp rr2;have s':=s.ext yx;have p2:cI X.K B W G' (match ρ[i]? with
   |some z=>(match lent z with
    |some ds=>oR (fk ρ) ρ fun k=>(match k with
     | .int k=>(match Jj ds.length k with|some m=>.nx ((ρ.set i (iK z (ds.set m q))).set j (.fz r0))|none=>.no)
     |_=>.no)
    |none=>.no)
   |none=>.no) De:=p'
  cases e1:ρ[i]? with
  |none=>rw[e1]at p2;exact p2.elim
  |some z =>
   rw[e1]at p2;dsimp only at p2;cases e2:lent z with
   |none=>rw[e2]at p2;exact p2.elim
   |some ds =>
    rw[e2]at p2;dsimp only at p2;obtain⟨a,ws,k1,k2,k3,k4,k5⟩:=s'.lent e1 e2;refine⟨c,_,rfl,Same.gK s'.en.gh hq,rfl,vq,[vr],rfl,_,k1,ρ,G',s',iu s' p2 fun k v2 H2 G2 _ y2 r3 p3=>?_⟩;cases k with
    |int k =>
     dsimp only at p3;cases e3:Jj ds.length k with
     |none=>rw[e3]at p3;exact p3.elim
     |some m =>
      rw[e3]at p3;rw[aM.mp r3];have s2:=s'.ext y2;refine⟨a,ws,k,m,rfl,rfl,y2.hh _ _ k2,by rw[<- k5.length];exact e3,vr,[],rfl,rfl,?_⟩;refine p3 _ _ G2 (SR.set (SR.wj s2 (z:=iK z (ds.set m q)) (o:=.lst (ws.set m vq)) e1 (sO e2) k1 (Fe e2) (JQ e2 (bL.set m (k5.mono y2.gg) (rq.mono y2.gg))) (fun _ h=>JR e2 h)) (r2.mono y2.gg)) (.refl _)
    |_=>exact p3.elim
 | .tup [],p',r=>exact p'.elim
 | .tup [_],p',r=>exact p'.elim
 | .tup (_::_::_::_),p',r=>exact p'.elim
 | .non,p',r=>exact p'.elim
 | .bl _,p',r=>exact p'.elim
 | .int _,p',r=>exact p'.elim
 | .str _,p',r=>exact p'.elim
 | .lst _,p',r=>exact p'.elim
 | .mZ _ _,p',r=>exact p'.elim
 | .je _ _,p',r=>exact p'.elim
theorem adS(i j:Nat) {x y:Str}{p p1 cp pos pos':Pos}(hc:X.calm=true) (hNd:X.N.Nodup) (hm:X.mg "sorted"=none) (hi:X.N[i]?=some y:=by rfl) (hx:Kw X.env.scope y:=by first|exact Or.inl rfl|exact Or.inr rfl) (hN:X.N[j]?=some x:=by rfl) (hv:Kv X.env.scope x:=by first|exact Or.inl rfl|exact Or.inr (Or.inl rfl)|exact Or.inr (Or.inr rfl)) (hd:(x == ("__debug__":Str))=false:=by decide)
  (hcd:(x == ("__classdict__":Str))=false:=by decide) (hg:Gl X "sorted":=by rfl) (he:a9 [.Name x p1] X.env=[(false,aS (.Name x p1) X.env)]:=by rfl)
  (hs:d6 (.Call (.Name "sorted" p) [.Name x p1] [] cp) (some (.Name y pos')) pos.line X.env=pure false:=by rfl) (hf:X.fn y=true∨X.env.scope.names.lookup y=some .local:=by first|exact .inl rfl|exact .inr rfl|assumption) :
  SS X B W (.Assign [.Name y pos'] (.Call (.Name "sorted" p) [.Name x p1] [] cp) pos) (Fj i j):=by
 refine PS.imp (yj hNd hi hx (nu (vC hc) hg hm ox (dg (gO hN hv hd hcd) gP he) (by decide) (by decide) he rfl) hs hf) fun De σ H ⟨ρ,G,s,pp⟩=>?_;unfold Fj at pp;split at pp
 ·rename_i kvs q;split at pp
  ·rename_i hc2;obtain⟨a,o,h1,h2,h3,h4,U,bI,rfl,hU,hk⟩:=s.own j _ q rfl;have ek:=hk.keys;have el:bI.length=kvs.length:=by have:=congrArg eI ek;simpa using this
   refine⟨_,h1,a,U,bI,rfl,YB h2,fun b ks z=>Same.gK s.en.gh (hU b ks z),by lia,fun p hp=>?_,fun l zs hl hz hv'=>?_⟩
   ·have:p.1∈kvs.map (·.1):=ek▸mB hp;obtain⟨p',hp',e⟩:=c8.mp this;exact e▸hc2.2 p' hp'
   ·rw[ek]at hz hv';refine pp _ _ G (s.acn (jX hz fun i v hv2=>?_) hl) (.refl _);obtain⟨b,e1,e2⟩:=hv' i v hv2;exact⟨b,e1,hU b _ e2⟩
  ·exact pp.elim
 ·exact pp.elim
end
def JX(g:D->D->Rs D)(j:Nat)(fb:au->Rs D):au->Rs D:=fun ρ=>match ρ[j]? with
 |some z=>(match lent z with|some ds=>(fb ρ).bind fun y=>g (.lst ds) y|none=>.no)
 |none=>.no
section
variable{X:Cx}{K:ah}{B:Bs}{W:Wi}{σ:St}{G H G' H':Hp}{ρ:au}{a b:ag}{pos:Pos}{fa fb:au->Rs (D×au)}
theorem amm(hu:X.A.units + 8 < bo)(ha:SX X B a fa)(hb:SX X B b fb):SX X B (.Compare a [.Eq] [b] pos) (oN Vv fa fb):=ajK (Lh hu) Li ha hb (qd _)
theorem ajR(hu:X.A.units + 8 < bo)(ha:SX X B a fa)(hb:SX X B b fb):STX X B (.Compare a [.Eq] [b] pos) (xT (oN Vv fa fb)):=Zv (Lh hu) Li ha hb (qd _)
theorem ajS(ha:SX X B a fa)(hb:SX X B b fb):STX X B (.Compare a [.Gt] [b] pos) (xT (oN gGt fa fb)):=Zv alo (Dh fun _ _ _=>bK.mpr rfl) ha hb (qd _)
theorem agy{g:D->D->Rs D}{j:Nat}{fb:au->Rs D}{r:R2}{Q:VK}(hr:∀(G H:Hp) (ds:List D) (y:D) (v u:V) (Q:VK),Same G H->Rep K H (.lst ds) v->Rep K G y u->Post K W σ G H (g (.lst ds) y) Q->(∀b xs,H b=some (.tup xs)->G b=some (.tup xs))->r v u H Q)
  (h:tF K B W (JX g j fb) σ H Q):tOp r (GD j) (tF K B W fb) σ H Q:=by
 obtain⟨ρ,G,s,p⟩:=h;unfold JX at p;cases q:ρ[j]? with
 |none=>rw[q]at p;exact p.elim
 |some z =>
  rw[q]at p;dsimp only at p;cases q1:lent z with
  |none=>rw[q1]at p;exact p.elim
  |some ds =>
   rw[q1]at p;obtain⟨a,vs,h1,h2,h3,h4,h5⟩:=s.lent q q1;refine⟨_,h1,ρ,G,s,?_⟩;refine Post.mono (Post.bind (k:=fun y=>g (.lst ds) y) p) fun u H1 ⟨G1,d,y,r1,p1⟩=>?_;exact hr G1 H1 ds d _ u Q y.gh (aW.mpr ⟨a,vs,rfl,.of (y.hh _ _ h2),(h5.mono y.gg).mono y.gh⟩) r1 p1 y.tp
theorem agz{G H:Hp}{ds:List D}{y:D}{v u:V}{Q:VK}(e:Same G H)(r1:Rep K H (.lst ds) v)(r2:Rep K G y u)(p:Post K W σ G H (QM (.lst ds) y) Q)(tp:∀b xs,H b=some (.tup xs)->G b=some (.tup xs)):ajc K 8 v u H Q:=by
 unfold QM at p;split at p
 ·rename_i hc;exact⟨_,_,r1,r2.mono e,hc.1,hc.2,p _ H G (.refl e tp) (bK.mpr rfl)⟩
 ·exact p.elim
section
variable{x:Str}{p1:Pos}{fb:au->Rs D}(j:Nat) (hu:X.A.units + 8 < bo) (hb:SE X B W b fb) (hN:X.N[j]?=some x) (hv:Kv X.env.scope x) (hd:(x == ("__debug__":Str))=false) (hcd:(x == ("__classdict__":Str))=false)
theorem ajT(hu:X.A.units + 8 < bo) (hb:SE X B W b fb) (hN:X.N[j]?=some x:=by rfl) (hv:Kv X.env.scope x:=by first|exact Or.inl rfl|exact Or.inr (Or.inl rfl)|exact Or.inr (Or.inr rfl)) (hd:(x == ("__debug__":Str))=false:=by decide) (hcd:(x == ("__classdict__":Str))=false:=by decide):ST X B W (.Compare (.Name x p1) [.NotEq] [b] pos) (fT (JX QM j fb)) :=
 PT.imp (KC (acu hu) (gO hN hv hd hcd) hb (qd _)) fun σ H Q h=>agy (fun G H ds y v u Q e r1 r2 p tp=>agz e r1 r2 p tp) (abV h)
end
end
end Vl
namespace Vl
open PySem PySem.Spec PySem.Calls PySem.W L2
section
variable{ρ ρ1:au}{d x y z:D}{f fa fb:au->Rs D}{g k a b:au->Ou}{r:Ou}{ds:List D}{fs:au->Rs (List D)}{c c1 c2:au->Rs Bool}{t u:Bool}{i j:Nat}{α β:Type}{e:Str}{n:Int}
theorem amn:aci (.nx ρ) k=k ρ:=rfl
theorem amo:aci (.rt d) k=.rt d:=rfl
theorem amq:aci (.ex e n ρ) k=.ex e n ρ:=rfl
theorem amr{a:α}{k:α->Ou}:oR (.ok a) ρ k=k a:=rfl
theorem aoW{k:α->Ou}:oR (.ex e n) ρ k=.ex e n ρ:=rfl
theorem JZ{a:α}{k:α->Rs β}:Rs.bind (.ok a) k=k a:=rfl
theorem ams{k:α->Rs β}:Rs.bind (.ex e n) k=.ex e n:=rfl
theorem aoX:oO (some ρ)=.nx ρ:=rfl
theorem amt:gD (.nx ρ)=.ok .non:=rfl
theorem amu:gD (.rt d)=.ok d:=rfl
theorem amv:gD (.ex e n ρ)=.ex e n:=rfl
theorem amw:acp (.nx ρ)=.nx ρ:=rfl
theorem amx:acp (.rt d)=.rt d:=rfl
theorem ajU{n:Nat}{v:List D->Rs D}:bH n v ds=if ds.length=n then v ds else .no:=rfl
theorem ajV{a:α}:Du (.ok a)=.ok a:=rfl
theorem sZ{m n:Int}(h:-(2 ^ 64) < n/\n < 2 ^ 64):jG (.int m) (.int n)=.ok (.int (m * n)):=acB (.inr h)
theorem Mw{m n:Int}(h:-(2 ^ 64) < m/\m < 2 ^ 64):jG (.int m) (.int n)=.ok (.int (m * n)):=acB (.inl h)
theorem ahV{m:Int}:fY (.tup ds) (.int m)=match Cm ds m with|some d=>.ok d|none=>.no:=rfl
theorem amy{m:Int}:fY (.lst ds) (.int m)=match Cm ds m with|some d=>.ok d|none=>.no:=rfl
theorem WX:uI [.lst ds]=.ok (.int ds.length):=rfl
theorem Fl:uI [.tup ds]=.ok (.int ds.length):=rfl
theorem WY:qg [.lst ds]=.ok (.tup ds):=rfl
theorem ajW:qg [.tup ds]=.ok (.tup ds):=rfl
theorem ajX:adt [.lst ds]=.ok (.lst ds):=rfl
theorem ajY:adt [.tup ds]=.ok (.lst ds):=rfl
theorem ajZ:Wy [.int n]=.ok (.int n):=rfl
theorem Xa:Wy [.bl t]=.ok (.int (if t then 1 else 0)):=rfl
theorem amA:aoU x .non=.ok (.bl (wL x)):=rfl
theorem akb:amf x .non=.ok (.bl (!wL x)):=rfl
theorem aoY:wL .non=true:=rfl
theorem aoZ:wL (.bl t)=false:=rfl
theorem apa:wL (.int n)=false:=rfl
theorem apb:wL (.tup ds)=false:=rfl
theorem apc:wL (.lst ds)=false:=rfl
theorem amB:afx (.int n)=.ok (.int (-n)):=rfl
theorem amC{d:D}:Cm (d::ds) 0=some d:=by
 unfold Cm;have:Jj (d::ds).length 0=some 0:=by unfold Jj;simp
 rw[this];rfl
theorem amD{d d':D}:Cm (d::d'::ds) 1=some d':=by
 unfold Cm;have:Jj (d::d'::ds).length 1=some 1:=by unfold Jj;simp;lia
 rw[this];rfl
end
section
open So Tb
theorem uw{α:Type}{h:Tg}{fe:au->Rs D}(P:au->Prop)(Cq:α->D)(F:α->D):∀{xs:List α}{ρ:au},P ρ->(∀x∈xs,∀ρ,P ρ->∃ρ1,h (Cq x) ρ=some ρ1/\fe ρ1=.ok (F x)/\P ρ1)->jr h (fun _=>.ok true) fe (xs.map Cq) ρ=.ok (xs.map F)
 | [],ρ,p,_=>rfl
 |x::xs,ρ,p,st=>by obtain⟨ρ1,e1,e2,p2⟩:=st x (by simp) ρ p;have e:=uw (xs:=xs) P Cq F p2 fun d' hd=>st d' (by simp[hd]);simp only[b_,jr,e1,Rs.bind,e2,e,if_true]
theorem agA{acc:List (List Int)}{k x:List Int}:x∈ins acc k↔x=k∨x∈acc:=by
 unfold ins;split
 ·rename_i h;constructor
  ·exact .inr
  ·rintro(rfl|h')
   ·exact h
   ·exact h'
 ·exact bz
theorem vI{l:List (List Int)}{x:List Int}:x∈bW l↔x∈l:=by
 unfold bW;have:∀(l acc:List (List Int)),x∈l.foldl ins acc↔x∈l∨x∈acc:=by
  intro l
  induction l with
  |nil=>intro acc;simp
  |cons a l ih =>
   intro acc;rw[kx,ih,agA,bz];constructor
   ·rintro(h|h|h)
    ·exact .inl (.inr h)
    ·exact .inl (.inl h)
    ·exact .inr h
   ·rintro((h|h)|h)
    ·exact .inr (.inl h)
    ·exact .inl h
    ·exact .inr (.inr h)
 simpa using this l []
theorem aaT(l:List (List Int)):(bW l).Nodup:=by
 unfold bW;have:∀(l acc:List (List Int)),acc.Nodup->(l.foldl ins acc).Nodup:=by
  intro l
  induction l with
  |nil=>intro acc h;exact h
  |cons a l ih =>
   intro acc h;refine ih _ ?_;unfold ins;split
   ·exact h
   ·rename_i hn;exact jn.mpr ⟨hn,h⟩
 exact this l [] tN
theorem jY{l:List (List Int)}{x:List Int}:x∈cu l↔x∈l:=(eE l).mem_iff
theorem pN(l:List (List Int)):(cu l).length=l.length:=(eE l).length_eq
abbrev rise(l:List (List Int)):List (List Int):=cu (bW l)
theorem Fo{l:List (List Int)}{x:List Int}:x∈rise l↔x∈l:=jY.trans vI
theorem wQ(l:List (List Int)):(rise l).length<=l.length:=by unfold rise;rw[pN];exact vo l
theorem agB{f:au->Rs D}{ρ:au}{bf:List (List Int)}(h:f ρ=.ok (.lst (bf.map aj)))(hl:bf.length < 1000)(hne:∀ks∈bf,ks≠[]):Er (fK f) ρ=.ok (.lst ((rise bf).map aj)):=by unfold Er fK;rw[h];simp only[JZ,Ms,JH];rw[if_pos (i5 (Tb.vo _) hl)];simp only[JZ,Mt];rw[if_pos ⟨fun ks hk=>hne ks (vI.mp hk),i5 (vo bf) hl⟩]
def Pair(ks:List Int):Prop:=∃a b,ks=[a,b]
theorem Pair.ne{ks:List Int}(h:Pair ks):ks≠[]:=by obtain⟨a,b,rfl⟩:=h;simp
theorem RW(ks:List Int):cO (aj ks)<=2:=by
 unfold aj;have:jF (ks.map D.int)<=1:=by
  induction ks with
  |nil=>simp[jF]
  |cons k ks ih=>simp only[b_,jF,cO];exact Nat.max_le.mpr ⟨by lia,ih⟩
 simp only[cO];lia
theorem aaU(bf:List (List Int)):jF (bf.map aj)<=2:=by
 induction bf with
 |nil=>simp[jF]
 |cons k bf ih=>simp only[b_,jF];exact Nat.max_le.mpr ⟨RW k,ih⟩
end
end Vl
namespace Vl
open PySem PySem.Spec PySem.Calls PySem.W L2 So
section
variable{ρ ρ1 ρ2:au}{d x y z:D}{f fa fb:au->Rs D}{xa xb:au->Rs (D×au)}{g k a b:au->Ou}{r:Ou}{ds:List D}{fs:au->Rs (List D)}{xs:au->Rs (List D×au)}{c c1 c2:au->Rs (Bool×au)}{t u:Bool}{i j:Nat}
theorem iR(h:f ρ=.ok d):xP f ρ=.ok (d,ρ):=by unfold xP;rw[h];rfl
theorem Zx(h:fs ρ=.ok ds):sS fs ρ=.ok (ds,ρ):=by unfold sS;rw[h];rfl
theorem Zy{f:au->Rs Bool}(h:f ρ=.ok t):xPT f ρ=.ok (t,ρ):=by unfold xPT;rw[h];rfl
theorem fH{o:D->D->Rs D}(h1:xa ρ=.ok (x,ρ1))(h2:xb ρ1=.ok (y,ρ2))(h3:o x y=.ok z):oN o xa xb ρ=.ok (z,ρ2):=by unfold oN;rw[h1];show bx (xb ρ1) _=_;rw[h2];show lf (o x y) ρ2=_;rw[h3];rfl
theorem qF:yJ ρ=.ok ([],ρ):=rfl
theorem dR(h1:xa ρ=.ok (x,ρ1))(h2:xs ρ1=.ok (ds,ρ2)):gG xa xs ρ=.ok (x::ds,ρ2):=by unfold gG;rw[h1];show bx (xs ρ1) _=_;rw[h2];rfl
theorem Xb{o:List D->Rs D}(h1:xs ρ=.ok (ds,ρ1))(h2:o ds=.ok d):xA xs o ρ=.ok (d,ρ1):=by unfold xA;rw[h1];show lf (o ds) ρ1=_;rw[h2];rfl
theorem agC(h:xa ρ=.ok (.bl t,ρ1)):xT xa ρ=.ok (t,ρ1):=by unfold xT;rw[h];rfl
theorem RZ(h:c1 ρ=.ok (false,ρ1)):aaR c1 c2 ρ=.ok (false,ρ1):=by unfold aaR;rw[h];rfl
theorem Sd(h:c1 ρ=.ok (true,ρ1))(h2:c2 ρ1=.ok (t,ρ2)):aaR c1 c2 ρ=.ok (t,ρ2):=by unfold aaR;rw[h];exact h2
theorem aaV{n:Nat}{w:List D->List D->Rs (D×List D)}{z0 z1:Sl}{e0 es es':List D}(h0:ρ[i]?=some z0)(l0:lent z0=some e0)(h1:xs ρ=.ok (ds,ρ1))(hn:ds.length=n)(h2:ρ1[i]?=some z1)(l1:lent z1=some es)(h3:w es ds=.ok (d,es')):xM i n w xs ρ=.ok (d,ρ1.set i (iK z1 es')):=by unfold xM;rw[h0];dsimp only;rw[l0];dsimp only;rw[h1];show(if ds.length=n then _ else _)=_;rw[if_pos hn,h2];dsimp only;rw[l1];dsimp only;rw[h3]
theorem agD(h:xa ρ=.ok (d,ρ1)):yK i xa ρ=.nx (ρ1.set i (.fz d)):=by unfold yK;rw[h];rfl
theorem nR(h:xa ρ=.ok (d,ρ1))(e:ρ1.set i (.fz d)=ρ2):yK i xa ρ=.nx ρ2:=by rw[<- e];exact agD h
theorem agE(h:xa ρ=.ok (d,ρ1))(e:ρ1=ρ2):vH xa ρ=.rx d ρ2:=by subst e;unfold vH;rw[h];rfl
theorem qG(h:xa ρ=.ok (d,ρ1)):vH xa ρ=.rx d ρ1:=by unfold vH;rw[h];rfl
theorem Zz(h:c ρ=.ok (true,ρ1))(h2:a ρ1=r):xIf c a b ρ=r:=by unfold xIf;rw[h];exact h2
theorem CJ(h:c ρ=.ok (false,ρ1))(h2:b ρ1=r):xIf c a b ρ=r:=by unfold xIf;rw[h];exact h2
theorem Fp{h:Tg}{n:Int}{N:Nat}(h1:xa ρ=.ok (.int n,ρ1))(hb:n < 2 ^ 62)(hN:n=(N:Int))(h2:dD h g ((bu N).map fun(i:Nat)=>.int i) ρ1=r):JV h g xa ρ=r:=by
 have hc:-(2 ^ 62)<=n/\n < 2 ^ 62:=⟨by subst hN;lia,hb⟩
 unfold JV;rw[h1];simp only[oX];rw[if_pos hc,hN,kA];exact h2
theorem Xc{ρ2:au}(h:g ρ=.rx d ρ2):cB g k ρ=.rx d ρ2:=by unfold cB;rw[h];rfl
theorem Xd(ks:List Int):mq (aj ks)=some ks:=by
 show qC (ks.map D.int)=some ks
 induction ks with
 |nil=>rfl
 |cons k ks ih=>rw[b_];show(qC (ks.map D.int)).map _=_;rw[ih];rfl
theorem agF{agv kvs:List (List Int×D)}{ks:List Int}{v:D}(he:fa ρ=.ok v)(h0:ρ[j]?=some (.od agv))(hk:xb ρ=.ok (aj ks,ρ1))(hj:ρ1[j]?=some (.od kvs))(hl:kvs.length<=1000000):Fi j fa xb ρ=.nx (ρ1.set j (.od (jh kvs ks v))):=by unfold Fi;rw[he,h0];show oX (xb ρ) _=_;rw[hk];show(match mq (aj ks),ρ1[j]? with|some ks,some (.od kvs)=>if kvs.length<=1000000 then Ou.nx (ρ1.set j (.od (jh kvs ks v))) else .no|_,_=>.no)=_;rw[Xd,hj];show(if kvs.length<=1000000 then Ou.nx _ else .no)=_;rw[if_pos hl]
theorem ZC{agv kvs:List (List Int×D)}{ks:List Int}{v:D}(h0:ρ[j]?=some (.od agv))(hk:xb ρ=.ok (aj ks,ρ1))(hj:ρ1[j]?=some (.od kvs))(he:fa ρ=.ok v)(hl:kvs.length<=1000000)(e:ρ1.set j (.od (jh kvs ks v))=ρ2):Fi j fa xb ρ=.nx ρ2:=by rw[<- e];exact agF he h0 hk hj hl
theorem agG{es es0:List D}{n:Int}(h0:ρ[i]?=some (.ow es0))(hk:xa ρ=.ok (.int n,ρ1))(h1:ρ1[i]?=some (.ow es))(hn:0<=n/\n < es.length/\es.length<=1000000):JW i xa ρ=.nx (ρ1.set i (.ow (es.eraseIdx n.toNat))):=by unfold JW;rw[h0];show oX (xa ρ) _=_;rw[hk];show(match D.int n,ρ1[i]? with|.int k,some (.ow ds)=>if 0<=k/\k < ds.length/\ds.length<=1000000 then Ou.nx (ρ1.set i (.ow (ds.eraseIdx k.toNat))) else .no|_,_=>.no)=_;rw[h1];show(if _ then Ou.nx _ else .no)=_;rw[if_pos hn]
theorem agH{es es0:List D}{n:Int}(h0:ρ[i]?=some (.ow es0))(hk:xa ρ=.ok (.int n,ρ1))(h1:ρ1[i]?=some (.ow es))(hn:0<=n/\n < es.length/\es.length<=1000000)(e:ρ1.set i (.ow (es.eraseIdx n.toNat))=ρ2):JW i xa ρ=.nx ρ2:=by rw[<- e];exact agG h0 hk h1 hn
theorem adT{n:Nat}{w:List D->Rs (List D)}{es:List D}(h:fs ρ=.ok ds)(hl:ds.length=n)(h2:w ds=.ok es):RT i n w fs ρ=.nx (ρ.set i (.ow es)):=by unfold RT;rw[h];show(if _ then _ else _)=_;rw[if_pos hl,h2]
theorem adU{q r':D}{z0:Sl}{es:List D}{n:Int}{m:Nat}(h:fa ρ=.ok (.tup [q,r']))(h0:ρ[i]?=some z0)(l0:lent z0=some es)(hk:fb ρ=.ok (.int n))(hm:Jj es.length n=some m):RV i j fa fb ρ=.nx ((ρ.set i (iK z0 (es.set m q))).set j (.fz r')):=by
 unfold RV;rw[h];show(match ρ[i]? with
  |some z=>(match lent z with
   |some ds=>oR (fb ρ) ρ fun k=>(match k with
    | .int k=>(match Jj ds.length k with|some m=>.nx ((ρ.set i (iK z (ds.set m q))).set j (.fz r'))|none=>.no)
    |_=>.no)
   |none=>.no)
  |none=>.no)=_
 rw[h0];dsimp only;rw[l0];dsimp only;rw[hk];show(match Jj es.length n with|some m=>Ou.nx _|none=>.no)=_;rw[hm]
theorem aaW{kvs:List (List Int×D)}(h0:ρ[j]?=some (.od kvs))(hl:kvs.length < 1000)(hp:∀x∈kvs.map (·.1),Pair x):Fj i j ρ=.nx (ρ.set i (.ow ((cu (kvs.map (·.1))).map aj))):=by unfold Fj;rw[h0];show(if _ then _ else _)=_;rw[if_pos ⟨hl,fun p hp'=>(hp p.1 (mB hp')).ne⟩]
theorem agI{kvs:List (List Int×D)}(h0:ρ[j]?=some (.od kvs))(hl:kvs.length < 1000)(hp:∀x∈kvs.map (·.1),Pair x):EY j ρ=.ok (.lst ((cu (kvs.map (·.1))).map aj)):=by unfold EY;rw[h0];show(if _ then _ else _)=_;rw[if_pos ⟨hl,fun p hp'=>(hp p.1 (mB hp')).ne⟩]
theorem amE{z0:Sl}{es:List D}(h0:ρ[j]?=some z0)(l0:lent z0=some es)(hb:fb ρ=.ok y)(h:fY (.lst es) y=.ok d):adR j fb ρ=.ok d:=by unfold adR;rw[h0];dsimp only;rw[l0];dsimp only;rw[hb];exact h
theorem adV{g:D->D->Rs D}{z0:Sl}{es:List D}(h0:ρ[j]?=some z0)(l0:lent z0=some es)(hb:fb ρ=.ok y)(h:g (.lst es) y=.ok d):JX g j fb ρ=.ok d:=by unfold JX;rw[h0];dsimp only;rw[l0];dsimp only;rw[hb];exact h
end
end Vl
namespace Vl
open PySem PySem.Spec PySem.Calls PySem.W L2
abbrev KL:=List (List Int)
theorem t2(a b:D):dH [a,b]=.ok (.tup [a,b]):=ahH (by simp)
theorem nq(ks:List Int):mq (aj ks)=some ks:=by
 show qC (ks.map D.int)=some ks
 induction ks with
 |nil=>rfl
 |cons k ks ih=>rw[b_];show(qC (ks.map D.int)).map _=_;rw[ih];rfl
theorem qH(kvs:List (List Int×D))(x:List Int):(bV kvs x).isSome=decide (x∈kvs.map (·.1)):=by
 induction kvs with
 |nil=>rfl
 |cons p kvs ih =>
  unfold bV at ih ⊢;rw[eT,b_];by_cases h:p.1=x
  ·simp[h]
  ·have h':¬x=p.1:=fun z=>h z.symm;simp only[h,decide_false];rw[ih];simp[h']
theorem wR(kvs:List (List Int×D))(ks x:List Int)(d:D):x∈(jh kvs ks d).map (·.1)↔x=ks∨x∈kvs.map (·.1):=by
 unfold jh;split
 ·rename_i c;rw[qH]at c;have hk:=of_decide_eq_true c;have e:(kvs.map fun p=>if p.1=ks then (p.1,d) else p).map (·.1)=kvs.map (·.1):=by rw[eS];refine nS fun p _=>?_;show(if p.1=ks then (p.1,d) else p).1=p.1;split <;> rfl
  rw[e];exact⟨.inr,fun h=>h.elim (fun z=>z▸hk) id⟩
 ·rw[kC,dq];simp[or_comm]
theorem ux(kvs:List (List Int×D))(ks:List Int)(d:D):(jh kvs ks d).length<=kvs.length + 1:=by
 unfold jh;split
 ·rw[b8];lia
 ·simp
theorem ZD{ρ:au}{j:Nat}{kvs:List (List Int×D)}{ks:List Int}{v:D}{fe fk:au->Rs D}(he:fe ρ=.ok v)(hj:ρ[j]?=some (.od kvs))(hk:fk ρ=.ok (aj ks))(hl:kvs.length<=1000000):wO j fe fk ρ=.nx (ρ.set j (.od (jh kvs ks v))):=by unfold wO;rw[he,hj];show oR (fk ρ) ρ _=_;rw[hk];show(match mq (aj ks) with|some ks=>if kvs.length<=1000000 then Ou.nx _ else .no|none=>.no)=_;rw[nq];show(if kvs.length<=1000000 then Ou.nx _ else .no)=_;rw[if_pos hl]
def GK(kvs:List (List Int×D)):Prop:=∀x∈kvs.map (·.1),Pair x
abbrev sh(k:KL)(b:Bool):D:=.tup [.tup (k.map aj),.bl b]
structure GN (kvs:List (List Int×D)):Prop where
 pr:GK kvs
 nd:(kvs.map (·.1)).Nodup
theorem GN.put{kvs:List (List Int×D)}(h:GN kvs)(x y:Int)(d:D):GN (jh kvs [x,y] d):=by
 refine⟨fun z hz=>?_,?_⟩
 ·rcases(wR kvs [x,y] z d).mp hz with rfl|h'
  ·exact⟨x,y,rfl⟩
  ·exact h.pr z h'
 ·unfold jh;split
  ·have e:(kvs.map fun p=>if p.1=[x,y] then (p.1,d) else p).map (·.1)=kvs.map (·.1):=by rw[eS];refine nS fun p _=>?_;show(if p.1=[x,y] then (p.1,d) else p).1=p.1;split <;> rfl
   rw[e];exact h.nd
  ·rename_i c;rw[kC,List.nodup_append];refine⟨h.nd,by simp,fun a ha b hb=>?_⟩;simp only[b_,kq,dE]at hb;subst hb;rintro rfl;rw[qH]at c;exact c (decide_eq_true ha)
theorem GN.nil:GN []:=⟨fun _ h=>(by cases h),tN⟩
theorem abM(p:List Int)(i:Int)(j:Nat)(hi:i=j)(hj:j < p.length):fY (aj p) (.int i)=.ok (.int (p.getD j 0)):=by subst hi;show fY (.tup (p.map D.int)) (.int j)=_;rw[ahV];unfold Cm Jj;rw[if_pos (by lia),if_pos (by rw[b8];lia)];simp only[kA,Option.bind_some,cf,d4 hj,nK,eK,nN]
theorem wU{L:KL}{E:au->Rs D}{F:List Int->D}{ρ:au}{fi:au->Rs (List D)}{caps:List Nat}{cs:List Sl}(hs:eH 1 caps ρ=.no::cs)(hi:fi ρ=.ok (L.map aj))(hp:∀ks∈L,E (.fz (aj ks)::cs)=.ok (F ks))(hl:L.length<=1000) :
  dG (bh 0) (fun _=>.ok true) E 1 caps fi ρ=.ok (.lst (L.map F)):=by
 refine Lj hi ?_ (by rw[b8];lia);rw[hs];exact uw (fun ρ=>∃a,ρ=a::cs) aj F ⟨_,rfl⟩ (by
  rintro ks hk ρ ⟨a,rfl⟩;exact⟨_,rfl,hp ks hk,_,rfl⟩)
theorem ZF{X:au->Rs Bool}{E:au->Rs D}{t:List Int->Bool}{F:List Int->List Int}{cs:List Sl}:∀{L:KL},(∀ks∈L,X (.fz (aj ks)::cs)=.ok (t ks))->(∀ks∈L,E (.fz (aj ks)::cs)=.ok (aj (F ks)))->∀a,jr (bh 0) X E (L.map aj) (a::cs)=.ok (((L.filter t).map F).map aj)
 | [],_,_,a=>rfl
 |k::L,hx,he,a=>by
  have ih:=ZF (L:=L) (fun ks h=>hx ks (.tail _ h)) (fun ks h=>he ks (.tail _ h)) (.fz (aj k));have h1:=hx k (.head _);have h2:=he k (.head _);cases c:t k with
  |true =>
   rw[c]at h1;simp only[b_,jr,bh,hZ,h1,h2,ih,Rs.bind,if_true,my,c]
  |false =>
   rw[c]at h1;simp only[b_,jr,bh,hZ,h1,h2,ih,Rs.bind,bq,if_false,my,c]
theorem Xe{L:KL}{X:au->Rs Bool}{E:au->Rs D}{t:List Int->Bool}{F:List Int->List Int}{ρ:au}{fi:au->Rs (List D)}{caps:List Nat}{cs:List Sl}(hs:eH 1 caps ρ=.no::cs)(hi:fi ρ=.ok (L.map aj))(hx:∀ks∈L,X (.fz (aj ks)::cs)=.ok (t ks))(he:∀ks∈L,E (.fz (aj ks)::cs)=.ok (aj (F ks)))(hl:L.length<=1000) :
  dG (bh 0) X E 1 caps fi ρ=.ok (.lst (((L.filter t).map F).map aj)):=by
 refine Lj hi ?_ (by rw[b8,b8];have:=mE t L;lia);rw[hs];exact ZF hx he _
theorem Ka{L:KL}{X:au->Rs Bool}{E:au->Rs D}{t:List Int->Bool}{ρ:au}{fi:au->Rs (List D)}{caps:List Nat}{cs:List Sl}(hs:eH 1 caps ρ=.no::cs)(hi:fi ρ=.ok (L.map aj))(hx:∀ks∈L,X (.fz (aj ks)::cs)=.ok (t ks))(he:∀ks∈L,E (.fz (aj ks)::cs)=.ok (aj ks))(hl:L.length<=1000) :
  dG (bh 0) X E 1 caps fi ρ=.ok (.lst ((L.filter t).map aj)):=by
 have:=Xe (F:=id) hs hi hx he hl;rwa [List.map_id]at this
def ad(p t:List Int):List Int:=[p.getD 0 0 + t.getD 0 0,p.getD 1 0 + t.getD 1 0]
def mi(s b:List Int):List Int:=[s.getD 0 0 - b.getD 0 0,s.getD 1 0 - b.getD 1 0]
theorem CK(p t:List Int):Pair (ad p t):=⟨_,_,rfl⟩
theorem CN(p t:List Int):Pair (mi p t):=⟨_,_,rfl⟩
def had(A:KL)(b:Bool)(x:List Int):Bool:=decide (x∈A) != b
theorem akc(O:KL)(p:List Int):∀z∈O.map (ad p),Pair z:=fun z hz=>by obtain⟨t,_,rfl⟩:=c8.mp hz;exact⟨_,_,rfl⟩
section
variable{X:Cx}{K:ah}{B:Bs}{W:Wi}{σ:St}{G H:Hp}{ρ:au}
theorem Sg:∀{bI:List (List Int×V)}{ds:List D},bL K G ds (bI.map (·.2))->eG K G ((bI.map (·.1)).zip ds) bI
 | [],ds,h=>by rw[kq,List.zip_nil_left];exact .nil
 | (k,v)::bI,[],h=>by have:=bG.mp h;cases this
 | (k,v)::bI,d::ds,h=>by obtain⟨u,us,e,r1,r2⟩:=aQ.mp h;cases e;exact .cons r1 (Sg r2)
theorem Xf{kvs:List (List Int×D)}{bI:List (List Int×V)}(h:eG K G kvs bI):bI.map (·.1)=kvs.map (·.1)/\bL K G (kvs.map (·.2)) (bI.map (·.2)):=by
 induction h with
 |nil=>exact⟨rfl,bG.mpr rfl⟩
 |cons r _ ih=>exact⟨by rw[b_,b_,ih.1],aQ.mpr ⟨_,_,rfl,r,ih.2⟩⟩
theorem Kc{α β:Type}:∀l:List (α×β),(l.map (·.1)).zip (l.map (·.2))=l
 | []=>rfl
 |_::l=>by simp only[b_,List.zip_cons_cons,Kc l]
abbrev dU(kvs:List (List Int×D)):D:=.je (kvs.map (·.1)) (kvs.map (·.2))
def yL(ks:List (List Int))(ds:List D)(k:List Int):Option D:=bV (ks.zip ds) k
theorem wV(kvs:List (List Int×D))(k:List Int):yL (kvs.map (·.1)) (kvs.map (·.2)) k=bV kvs k:=by unfold yL;rw[Kc]
theorem Mx{ks:List (List Int)}{ds:List D}{v:V}(r:Rep K G (.je ks ds) v):∃a U bI,v=.ref a/\Ad G a U bI/\(∀b js,U b js->UG K G b js)/\eG K G (ks.zip ds) bI:=by obtain⟨a,U,bI,e,h1,h2,h3,h4⟩:=qe.mp r;exact⟨a,U,bI,e,h1,h2,h3▸Sg h4⟩
def Sh(i:Nat)(ρ:au):au:=match ρ[i]? with|some (.od kvs)=>ρ.set i (.fz (dU kvs))|_=>ρ
theorem SR.Sh{kvs:List (List Int×D)}{o:Obj}{a:ab}{U:ab->List Int->Prop}{bI:List (List Int×V)}(h:SR K B σ H ρ G){i:Nat}(q:ρ[i]?=some (.od kvs))(e1:σ[i]?=some (some (.ref a)))(h2:H a=some (.ext (oG U a bI)))(h3:G a=none)(h4:B.2 a=none)
  (h5:∀b ks,U b ks->UG K G b ks) (h6:eG K G kvs bI):Same G (upd G a (.ext fun h=>h.get? a=some o/\oG U a bI h))/\SR K B σ (upd H a (.ext fun h=>h.get? a=some o/\oG U a bI h)) (ρ.set i (.fz (dU kvs))) (upd G a (.ext fun h=>h.get? a=some o/\oG U a bI h)):=by
 have hl:i < ρ.length:=(di.mp q).1;have gg:Same G (upd G a (.ext fun h=>h.get? a=some o/\oG U a bI h)):=fun b o z=>by rw[aZ (aY z h3)];exact z
 obtain⟨u1,u2⟩:=Xf h6;refine⟨gg,⟨h.en.gg.trans gg,fun b o z=>?_,fun b o z=>?_,fun b xs z=>?_,fun b o z w=>?_⟩,by simp[h.len],fun j d z=>?_,fun j fs z wz=>?_,fun j k fs gs c z1 w1 z2 w2 z3 z4=>?_,fun j es c z1 z2=>?_,h.co.upd h2 fun _ z=>by cases z⟩
 ·rw[aZ (aY z h4)];exact h.en.hh b o z
 ·by_cases w:b=a
  ·subst w;rw[bA]at z ⊢;exact z
  ·rw[aZ w]at z ⊢;exact h.en.gh b o z
 ·by_cases w:b=a
  ·subst w;rw[bA]at z;cases z
  ·rw[aZ w]at z ⊢;exact h.en.tp b xs z
 ·rw[aZ (aY z h4)];exact h.en.nw b o z w
 ·by_cases e:i=j
  ·subst e;rw[dk hl]at z;cases z;exact⟨_,e1,qe.mpr ⟨a,U,bI,rfl,⟨o,bA⟩,fun b js w=>Same.gK gg (h5 b js w),u1,u2.mono gg⟩⟩
  ·rw[cS e]at z;obtain⟨v,w1,w2⟩:=h.fz j d z;exact⟨v,w1,w2.mono gg⟩
 ·by_cases e:i=j
  ·subst e;rw[dk hl]at z;cases z;cases wz
  ·rw[cS e]at z;obtain⟨b,us,w1,w2,w3,w4,w5⟩:=h.own j fs z wz;have hne:b≠a:=fun w=>by subst w;exact e (h.ap i j _ fs b q rfl z wz e1 w1)
   exact⟨b,us,w1,by rw[aZ hne];exact w2,by rw[aZ hne];exact w3,w4,w5.mono gg⟩
 ·have nj:i≠j:=fun e=>by subst e;rw[dk hl]at z1;cases z1;cases w1
  have nk:i≠k:=fun e=>by subst e;rw[dk hl]at z2;cases z2;cases w2
  rw[cS nj]at z1;rw[cS nk]at z2;exact h.ap j k fs gs c z1 w1 z2 w2 z3 z4
 ·have nj:i≠j:=fun e=>by subst e;rw[dk hl]at z1;cases z1
  rw[cS nj]at z1;exact h.tie j es c z1 z2
def Sq(i:Nat)(g:au->Ou):au->Ou:=fun ρ=>g (Sh i ρ)
theorem Mz{st:List be}{g:au->Ou}(i:Nat)(h:uM X B W st g):uM X B W st (Sq i g):=by
 intro pins s σ H De I hq;obtain⟨ρ,G,sr,p⟩:=hq;unfold Sq Sh at p;split at p
 ·rename_i kvs q;obtain⟨a,U,bI,e1,h2,h3,h4,h5,h6⟩:=sr.od q;obtain⟨hd,⟨o,ho⟩,hs⟩:=(show fD X.prog X.w H s.heap a (.ext (oG U a bI)) from I.hok a _ h2)
  obtain⟨gg,sr'⟩:=sr.Sh (o:=o) q e1 h2 h3 h4 h5 h6;have I':=I.write (x:=a) (e:=a) (t':=s.toks) (h':=s.heap) (o:=.ext fun h=>h.get? a=some o/\oG U a bI h) (by rw[h2];trivial) (.inl rfl) (fun _ _ _ z=>z) ⟨o,ho⟩ ⟨⟨ho,hd⟩,⟨o,ho⟩,fun h1 h2 z k=>⟨k _ z.1,hs _ _ z.2 k⟩⟩;exact h pins s σ _ De I' ⟨_,_,sr',cI.same p gg⟩
 ·exact h pins s σ H De I ⟨_,_,sr,p⟩
def Hf:D->D->Rs D:=fun x y=>match x with
 | .je ks ds=>(match mq y with
  |some k=>(match yL ks ds k with|some d=>.ok d|none=>.no)
  |none=>.no)
 |_=>.no
theorem agJ:QB K (adC K) Hf:=by
 intro B W σ ρ G H x y v u Q s rx ry p;cases x with
 |je ks ds =>
  unfold Hf at p;dsimp only at p;cases e1:mq y with
  |none=>rw[e1]at p;exact p.elim
  |some k =>
   rw[e1]at p;dsimp only at p;obtain⟨a,U,bI,rfl,h1,h2,h3⟩:=Mx rx;obtain⟨b,rfl,hb⟩:=Cy ry e1;unfold yL at p;rcases h3.get (ks:=k) with ⟨w1,w2⟩|⟨dd,vv,w1,w2,w3⟩
   ·rw[w1]at p;exact p.elim
   ·rw[w1]at p;exact⟨b,a,k,U,bI,vv,rfl,rfl,Same.gK s.en.gh hb,(h1.mono s.en.gh).at,fun c js z=>Same.gK s.en.gh (h2 c js z),w2,Post.ok s p w3⟩
 |_=>exact p.elim
theorem adW{a b:ag}{pos:Pos}{fa fb:au->Rs D}(hu:X.A.units + 8 < bo)(ha:SE X B W a fa)(hb:SE X B W b fb)(hs:vU b:=by intro _ _;rfl):SE X B W (.Subscript a b pos) (bZ Hf fa fb) :=
 PE.imp (Yy (ajE (Ez hu)) ha hb hs) fun _ _ _ h=>Dg agJ h
def Ba(neg:Bool):D->D->Rs D:=fun x y=>match y with
 | .je ks ds=>(match mq x with
  |some k=>.ok (.bl (if neg then !(yL ks ds k).isSome else (yL ks ds k).isSome))
  |none=>.no)
 |_=>.no
theorem ZG{σ:St}{x y:D}{v u:V}{G H:Hp}{Q:V->Hp->Prop}(gh:Same G H)(rx:Rep K G x v)(ry:Rep K G y u){ks:List (List Int)}{ds:List D}{k:List Int}(ey:y=.je ks ds)(e1:mq x=some k)(q:Q (.bl (yL ks ds k).isSome) H):Zj K v u H Q:=by
 subst ey;obtain⟨a,U,bI,rfl,h1,h2,h3⟩:=Mx ry;obtain⟨b,rfl,hb⟩:=Cy rx e1;refine⟨b,a,k,U,bI,rfl,rfl,Same.gK gh hb,(h1.mono gh).at,fun c js z=>Same.gK gh (h2 c js z),?_⟩;have:(sH bI k).isSome=(yL ks ds k).isSome:=by unfold yL;rcases h3.get (ks:=k) with ⟨q1,q2⟩|⟨_,_,q1,q2,_⟩ <;> rw[q1,q2] <;> rfl
 rw[this];exact q
theorem agK:QB K (Zj K) (Ba false):=by
 intro B W σ ρ G H x y v u Q s rx ry p;cases y with
 |je ks ds =>
  unfold Ba at p;dsimp only at p;cases e1:mq x with
  |none=>rw[e1]at p;exact p.elim
  |some k =>
   rw[e1]at p;simp only[bq,if_false]at p;exact ZG (σ:=σ) s.en.gh rx ry rfl e1 (Post.ok s p (bK.mpr rfl))
 |_=>exact p.elim
theorem adX:QB K (adG K) (Ba true):=by
 intro B W σ ρ G H x y v u Q s rx ry p;cases y with
 |je ks ds =>
  unfold Ba at p;dsimp only at p;cases e1:mq x with
  |none=>rw[e1]at p;exact p.elim
  |some k =>
   rw[e1]at p;simp only[if_true]at p;exact ZG (σ:=σ) s.en.gh rx ry rfl e1 ⟨_,rfl,Post.ok s p (bK.mpr rfl)⟩
 |_=>exact p.elim
section
variable{a b:ag}{pos:Pos}{fa fb:au->Rs D}
theorem akd(hu:X.A.units + 8 < bo)(ha:SE X B W a fa)(hb:SE X B W b fb)(hm:ij .In b=false:=by rfl):SE X B W (.Compare a [.In] [b] pos) (bZ (Ba false) fa fb):=VN (Zk (Ez hu)) agK ha hb hm
theorem agL(hu:X.A.units + 8 < bo)(ha:SE X B W a fa)(hb:SE X B W b fb)(hm:ij .NotIn b=false:=by rfl):ST X B W (.Compare a [.NotIn] [b] pos) (fT (bZ (Ba true) fa fb)):=KR (adH (Ez hu)) adX ha hb hm
end
def Ss(j:Nat)(fs:au->Rs (List D)):au->Rs D:=fun ρ=>match ρ[j]? with
 |some (.fz (.je ks ds))=>(fs ρ).bind fun es=>match es with
  | [k,w]=>(match mq k with|some k=>.ok ((yL ks ds k).getD w)|none=>.no)
  |_=>.no
 |_=>.no
theorem agM(j:Nat) {k d:ag}{x:Str}{p1 p2 cp:Pos}{fs:au->Rs (List D)}(hu:X.A.units + 8 < bo) (ha:SA X B W [k,d] fs) (hN:X.N[j]?=some x:=by rfl) (hv:Kv X.env.scope x:=by first|exact Or.inl rfl|exact Or.inr (Or.inl rfl)|exact Or.inr (Or.inr rfl)) (hd:(x == ("__debug__":Str))=false:=by decide)
  (hcd:(x == ("__classdict__":Str))=false:=by decide)
  (h1:ku (.Name x p1) "get" X.env (aS (.Name x p1) X.env)=aS (.Name x p1) X.env:=by rfl) (h2:a9 [k,d] X.env=[(false,aS k X.env),(false,aS d X.env)]:=by rfl)
  (h3:((c6 cp (a9 [k,d] X.env)).all (fun q=>!q.1) && (ik cp (il [] X.env)).all (fun q=>q.1.isSome) && decide (([k,d]:List ag).length + 0 + 0 < 30))=true:=by rfl)
  (h4:(p2.endLine == cp.line)=true:=by rfl) (h5:((c6 cp (a9 [k,d] X.env)).any fun q=>q.1)=false:=by rfl) :
  SE X B W (.Call (.Attribute (.Name x p1) "get" p2) [k,d] [] cp) (Ss j fs):=by
 intro pins s σ H Q I ⟨ρ,G,sr,p⟩;have hvv:PE X (.Name x p1) (GD j):=gO hN hv hd hcd;unfold Ss at p;cases e2:ρ[j]? with
 |none=>rw[e2]at p;exact p.elim
 |some z =>
  rw[e2]at p
  match z,p,e2 with
  | .fz (.je ks ds),p,e2 =>
   obtain⟨vj,g1,rj⟩:=sr.fz j _ e2;obtain⟨d0,U0,adE,rfl,g2,hU0,hk0⟩:=Mx rj;have g2H:=(g2.mono sr.en.gh).at
   refine sk h1 h3 h4 rfl (jD (hvv pins s σ H (fun y H1=>y=.ref d0/\H1=H) I ⟨_,g1,rfl,rfl⟩) fun v s1 fV=>?_);obtain⟨y,H1,I1,r1,hy,hH⟩:=fV;subst hy;subst hH;cases r1;obtain⟨φ,g2φ,hφ⟩:=g2H;obtain⟨o',es',ep',xs',w1,w2,_⟩:=hφ _ (I1.hok d0 _ g2φ).1;refine⟨"dict","dict.get",F.plainAttrs_dict,ve,F.type_dict_get,⟨o',w1,w2.1⟩,fun a ea=>?_,?_⟩
   ·cases ea;exact⟨o',w1,w2.2.1⟩
   have p':Post X.K W σ G H1 ((fs ρ).bind fun es=>match es with
     | [k,w]=>(match mq k with|some k=>.ok ((yL ks ds k).getD w)|none=>.no)
     |_=>.no) Q:=p
   have hA:=ha cp pins s1 σ H1 (fun vs H2=>adF X.K (.ref d0) vs H2 Q) I1 ⟨ρ,G,sr,?_⟩
   ·rw[h2]at hA h5 ⊢;refine sm h5 (sq ?_);exact jD hA fun us s2 ⟨vs,H2,I2,r2,q2⟩=>Zn (Ez hu) pins s2 σ H2 (.ref d0) vs (.ref d0) us Q I2 rfl r2 q2
   ·cases e:fs ρ with
    |no=>rw[e]at p';exact p'.elim
    |ex c n=>rw[e]at p';exact p'
    |ok es =>
     rw[e]at p';intro vs H' G' y r
     match es,p',r with
     | [],p',r=>exact p'.elim
     | [_],p',r=>exact p'.elim
     |_::_::_::_,p',r=>exact p'.elim
     | [k,w],p',r =>
      obtain⟨v1,vs1,rfl,r1,r2⟩:=aQ.mp r;obtain⟨v2,vs2,rfl,r3,r4⟩:=aQ.mp r2;cases bG.mp r4;have p3:Post X.K W σ G H1 (match mq k with|some k=>.ok ((yL ks ds k).getD w)|none=>.no) Q:=p';cases e1:mq k with
      |none=>rw[e1]at p3;exact p3.elim
      |some kk =>
       rw[e1]at p3;dsimp only at p3;obtain⟨b',rfl,hb⟩:=Cy r1 e1;refine⟨b',d0,v2,kk,U0,adE,rfl,rfl,Same.gK y.gh hb,⟨φ,y.hh _ _ g2φ,hφ⟩,fun c js z=>Same.gK (y.gg.trans y.gh) (hU0 c js z),?_⟩;unfold yL at p3;rcases hk0.get (ks:=kk) with ⟨w1,w2⟩|⟨dd,vv,w1,w2,w3⟩
       ·rw[w2];rw[w1]at p3;exact p3 v2 H' G' y r3
       ·rw[w2];rw[w1]at p3;exact p3 vv H' G' y (w3.mono y.gg)
  | .no,p,e2=>exact p.elim
  | .ow _,p,e2=>exact p.elim
  | .od _,p,e2=>exact p.elim
  | .op _,p,e2=>exact p.elim
  | .fz .non,p,e2=>exact p.elim
  | .fz (.bl _),p,e2=>exact p.elim
  | .fz (.int _),p,e2=>exact p.elim
  | .fz (.str _),p,e2=>exact p.elim
  | .fz (.tup _),p,e2=>exact p.elim
  | .fz (.lst _),p,e2=>exact p.elim
  | .fz (.mZ _ _),p,e2=>exact p.elim
end
end Vl
namespace L2
open PySem PySem.Spec PyProof.Rows
def Itv(K:ah)(a:ab)(n:Nat):It :=
 ⟨fun i H=>∃xs x,pB K H a xs/\xs.length=n/\xs.reverse[i]?=some x,fun i H x H'=>H'=H/\∀xs,pB K H a xs->xs.reverse[i]?=some x,fun i H=>n<=i⟩
theorem adY{P:aE}{w:ay}{K:ah}{tg:ag}(a it:ab)(n:Nat)(hn:n<=1000):Turn P w K tg (Itv K a n) [it] it (fun i h=>i<=n/\h.uQ it a ((n:Int) - 1 - (i:Int))) where
  mem:=by simp
  obj:=fun i h st b hb=>by
    have e:b=it:=by simpa using hb
    subst e;exact⟨_,st.2,fun v z=>by
      have z':Data.fields _=Data.cell v:=z;cases z'⟩
  keep:=fun i h h' st k=>⟨st.1,k it (by simp) _ st.2⟩
  item:=by
    intro X hP hw hK hc i pins s σ H E I hf st hg;subst hP hw hK;obtain⟨xs,x,hq,hl,hx⟩:=hg;obtain⟨its,rv,p,hz⟩:=I.tuple hq;have hi:i < n:=by have:=(di.mp hx).1;rw[List.length_reverse,hl]at this;exact this
    have hlen:its.length=n:=by rw[<- rv.length];exact hl
    rw[List.getElem?_reverse (by lia)]at hx;obtain⟨u,hu,ru⟩:=rv.get hx;obtain⟨f0,f1,f2,f3,f4,f5⟩:=hf it (by simp);have e:(n:Int) - 1 - (i:Int)=((n - 1 - i:Nat):Int):=by lia
    have hit:s.heap.uQ it a ((n - 1 - i:Nat):Int):=e▸st.2;refine rJ hit p (by simp only[cw];lia) (x:=u) (by rw[hl]at hu;simpa using hu) fun h' tk st' sb=>?_;have I1:Inv X pins σ H { s with heap:=h',toks:=tk }:=I.turned (t':=tk) (fun b o hb e=>(sb.2 b hb).trans e) f0 f1 f3 f4 f5;have e2:((n - 1 - i:Nat):Int) - 1=(n:Int) - 1 - ((i + 1:Nat):Int):=by lia
    rw[e2]at st';refine⟨u,rfl,Qv (s:={ s with heap:=h',toks:=tk }) (n:="reversed") st' rfl rfl (by decide) ⟨x,H,I1,ru,⟨rfl,fun ys hy=>?_⟩,⟨hi,st'⟩,fun b hb=>(hf b hb).1⟩⟩;rw[I.yh hy hq,List.getElem?_reverse (by lia)];exact hx
  done := by
    intro X hP hw hK hc i pins s σ H E I hf st hg;subst hP hw hK;have hg':i=n:=Nat.le_antisymm st.1 hg;subst hg';obtain⟨f0,f1,f2,f3,f4,f5⟩:=hf it (by simp);have e:(i:Int) - 1 - (i:Int)=-1:=by lia
    have hit:s.heap.uQ it a (-1):=e▸st.2;exact sJ (I.ok.hd hc) hit fun h' eb=>⟨rfl,I.turned (t':=s.toks) (fun b o hb e=>eb b o hb e) f0 f1 f3 f4 f5⟩
  self:=fun _ _ _ _ _ st h=>pK st.2 h
section
variable{X:Cx}{tg:ag}
def ape(K:ah)(ta:TA):TI:=fun σ H R=>ta σ H fun vs H1=>∃a xs,vs=[.ref a]/\pB K H1 a xs/\xs.length<=1000/\R (Itv K a xs.length) H1
theorem ake{l:ag}{ta:TA}{p pos:Pos}(hg:Gl X "reversed") (hm:X.mg "reversed"=none) (ha:PA X [l] ta) (hs:a9 [l] X.env=[(false,aS l X.env)]:=by rfl):PI X tg (.Call (.Name "reversed" p) [l] [] pos) (ape X.K ta):=by
 intro pins s σ H R I h;refine Call_ (uY I hg hm PyProof.Rows.Boot.«reversed» (oQ (jD (ha pos pins s σ H _ I h) fun us s1 ⟨vs,H1,I1,r1,q1⟩=>?_) hs rfl));obtain⟨a,xs,e,hq,hl,q⟩:=q1;subst e;obtain⟨u,rfl,rx⟩:=r1.one;cases rx;obtain⟨its,rv,pt,hz⟩:=I1.tuple hq;have hlen:its.length=xs.length:=rv.length.symm;refine uK pt (by simp only[cw];lia) fun tk=>?_;have st:(s1.heap.push (Zq a ((its.toArray.size:Int) - 1))).uQ s1.heap.objs.size a ((its.toArray.size:Int) - 1):=cy _ rfl;refine pK (s:={ s1 with heap:=s1.heap.push (Zq a ((its.toArray.size:Int) - 1)),toks:=tk }) st ?_;refine⟨s1.heap.objs.size,[s1.heap.objs.size],_,Itv X.K a xs.length,H1,rfl,I1.kept (t':=tk) fun b o e=>b0 _ e,adY a _ _ hl,?_,fun b hb=>?_,q⟩
 ·have e:((xs.length:Nat):Int) - 1 - ((0:Nat):Int)=(its.toArray.size:Int) - 1:=by simp only[cw];lia
  refine⟨d7 _,?_⟩;show Heap.uQ _ _ a (((xs.length:Nat):Int) - 1 - ((0:Nat):Int));rw[e];exact st
 ·have e:b=s1.heap.objs.size:=by simpa using hb
  subst e;exact I1.Qu (bj _) (I1.hok.fresh (bj _))
end
end L2
namespace Vl
open PySem PySem.Spec L2
def asV:D->Rs (List D)
 | .tup ds=>if ds.length<=1000 then .ok ds.reverse else .no
 |_=>.no
section
variable{X:Cx}{B:Bs}{W:Wi}{tg:ag}
theorem akf{e:ag}{p1 p2:Pos}{f:au->Rs D}(hm:X.mg "reversed"=none) (hi:SE X B W e f) (hgl:Gl X "reversed":=by rfl) (hst:a9 [e] X.env=[(false,aS e X.env)]:=by rfl):SI X B W tg (.Call (.Name "reversed" p1) [e] [] p2) (fL f asV):=by
 refine PI.imp (ake hgl hm (dg hi gP (by rw[hst];rfl)) hst) fun σ H R ⟨ρ,G,s,p⟩=>⟨ρ,G,s,Cr p (fun d v H' G' ds e1 e rv k=>?_) (fun d c n z=>by cases d <;> first|cases z|(simp only[asV]at z;split at z <;> cases z))⟩
 cases d with
 |tup es =>
  simp only[asV]at e1;by_cases c:es.length<=1000
  ·rw[if_pos c]at e1;cases e1;obtain⟨a,vs,rfl,q,rr⟩:=bw.mp rv;refine⟨a,vs,rfl,Same.gK e.gh q,by rw[<- rr.length];exact c,k _ H' G' (.refl e.gh e.tp) ?_⟩;have rr':=RM rr;intro i G1 H1 gg e';have q1:=Same.gK e'.gh (Same.gK gg q);refine⟨fun d hd=>?_,fun hl=>?_⟩
   ·obtain⟨v,hv,rv⟩:=rr'.get hd;refine⟨⟨vs,v,q1,rfl,hv⟩,fun x H2 y=>?_⟩;obtain⟨e2,y⟩:=y;subst e2;have:=y vs q1;rw[hv]at this;cases this;exact⟨G1,e',rv.mono gg⟩
   ·show vs.length<=i;rw[<- rr.length];simpa using hl
  ·rw[if_neg c]at e1;cases e1
 |_=>cases e1
end
end Vl
namespace Vl
open PySem PySem.Spec PySem.Calls PySem.W L2
abbrev akg(X:Cx)(A:a8)(N:List Str)(s:ae)(H:Hp)(qual:Str)(sc:Scope)(f:ab)(cd:aa):Cx where
 prog:=X.prog
 w:=X.w
 K:=X.K
 mg:=X.mg
 base:=X.base
 A:=A.deeper (envX qual sc s.heap.objs.size f cd (fJ sc X.env))
 N:=N
 s₀:=s
 H₀:=H
 env:=envX qual sc s.heap.objs.size f cd (fJ sc X.env)
 outer:=X.stack
 stack:=envX qual sc s.heap.objs.size f cd (fJ sc X.env)::X.stack
 ex:=[]
 fn:=fun _=>false
 calm:=true
 pn:=[]
 xe:=fun _ _=>False
section
variable{X:Cx}{pins:List (ab×Obj)}{σ:St}{H:Hp}{s:ae}
def yM(v:V)(caps:List Nat)(σ:St):St:=some v::caps.map fun i=>(σ[i]?).getD none
theorem aaX{A:a8}{qual:Str}{sc:Scope}{f:ab}{cd:aa}{p:Str}{Nc:List Str}{caps:List Nat}{v:V}{u:aa}{h':Heap}{tk:Nat}(c:vh X sc (p::Nc) 1 caps)(hp:sc.names.lookup p=some .local)(I:Inv X pins σ H s)(rv:RelV v u)(hA:A.handled=none)(hfr:A.frames=some X.stack)
  (hn:h'.Ns s.heap.objs.size fun x=>sF x [(p,u)]) (hk:∀b o,s.heap.get? b=some o->h'.get? b=some o) :
  Inv (akg X A (p::Nc) s H qual sc f cd) [] (yM v caps σ) H { s with heap:=h',toks:=tk }:=by
 have clX:∀{x:Str}{a:ab},(fJ sc X.env).lookup x=some a->X.env.cells.lookup x=some a:=fun h=>c.cl I h;refine⟨⟨I.ok.mod,c.kind,rfl,rfl,bj _,fun x y a h1 h2=>I.ok.inj x y a (clX h1) (clX h2),fun x hx=>?_,fun x a hf=>absurd (show false=true from hf) sL,fun _=>hA,a8.frames_deeper hfr,.inr ⟨rfl,rfl⟩,fun b hb=>absurd (show b∈([]:List ab) from hb) (by simp),
  fun b o e=>I.bs b o e,cx I.ok.bsz I.sz,fun b o e hb=>absurd (show b∈([]:List ab) from hb) (by simp),fun b hb=>absurd (show b∈([]:List ab) from hb) (by simp),I.stack,I.Cj⟩,
  rfl,I.bare,Un.kept hk,⟨_,hn,fun i x v' h1 h2 h3=>?_⟩,fun x a ha=>?_,I.hok.fresh (bj _),fun x a ha=>I.rm x a (clX ha),fun q hq=>absurd (show q∈([]:List (ab×Obj)) from hq) (by simp),I.hok.kept hk,?_⟩
 ·have hx':sc.names.lookup x=some .cell∨sc.names.lookup x=some .free:=hx;rcases hx' with hx'|hx'
  ·exact(c.Lf _ (gf hx') rfl).elim
  ·exact wu (gf hx')
 ·cases i with
  |zero =>
   have e1:p=x:=cz h1;subst e1;have e2:v=v':=cz (cz h2);subst e2;exact⟨u,rv,.inl ⟨hp,(show sF p [(p,u)]=some u from lr)⟩⟩
  |succ i =>
   have h2':(caps.map fun i=>(σ[i]?).getD none)[i]?=some (some v'):=h2;have h1':Nc[i]?=some x:=h1;rw[cf]at h2';cases e:caps[i]? with
   |none=>rw[e]at h2';cases h2'
   |some k =>
    rw[e]at h2';have agN:(σ[k]?).getD none=some v':=cz h2';have hs:σ[k]?=some (some v'):=by
     cases e3:σ[k]? with
     |none=>rw[e3]at agN;cases agN
     |some z=>rw[e3]at agN;exact congrArg some agN
    obtain⟨hX,hl0⟩:=c.cap i k x e (by rw[tj];exact h1');have hf:(x,d3.free)∈sc.names:=gf hl0;obtain⟨m,_,hl⟩:=I.loc;have hkind:=c.fr _ hf rfl;obtain⟨u',r,l⟩:=hl k x v' hX hs (by rcases hkind with q|q;exact .inr (.inl q);exact .inr (.inr q));refine⟨u',r,.inr ⟨.inr hl0,?_⟩⟩;obtain⟨cc,hcc⟩:=wu (env:=X.env) hf;refine⟨cc,hcc,?_⟩;rcases l with ⟨q,_⟩|⟨_,c2,hc2,z⟩
    ·rcases hkind with q'|q' <;> (rw[q]at q';cases q')
    ·rw[clX hcc]at hc2;cases hc2;obtain⟨o,ho,hd⟩:=z;exact⟨o,hk _ _ ho,hd⟩
 ·obtain⟨v',o,ho,hd⟩:=I.cell x a (clX ha);exact⟨v',o,hk _ _ ho,hd⟩
 ·show(some v::caps.map _).length=(p::Nc).length;have:=c.len;simp only[cv,b8]at this ⊢;lia
theorem adZ{A:a8}{E:aa->ae->Prop}{name qual:Str}{params:k7}{body:ag}{sc:Scope}{f c':ab}{pm ctv:aa}{p:Str}{Nc:List Str}{caps:List Nat}{v:V}{u:aa}{t:TE}{Q:VK}{R:aa->ae->Prop}
  (c:vh X sc (p::Nc) 1 caps) (hp:sc.names.lookup p=some .local) (I:Inv X pins σ H s) (rv:RelV v u) (hA:A.handled=none) (hfr:A.frames=some X.stack) (hroom:A.depth < sg) (hco:sc.isCoroutine=false) (hgen:sc.isGenerator=false)
  (ho:s.heap.get? f=some (kla_obj name qual params body sc (fJ sc X.env) pm c' ctv)) (hcd:s.heap.CodeRec (.ref c') qual) (hbind:bindArgs (kla_fn name qual params body sc (fJ sc X.env) pm (.ref c') ctv) ⟨[u],[]⟩=pure [(p,u)])
  (hb:PE (akg X A (p::Nc) s H qual sc f (.ref c')) body t) (ht:t (yM v caps σ) H Q)
  (hQ:∀r s',(∃w H',s'.os=s.os/\o9 s'.gens/\Un (pA X.stack) [] H H' s.heap s'.heap/\yg X.prog X.w H' s'.heap/\RelV w r/\Q w H')->R r s') :
  ai (ar X.prog X.w) A (call (.ref f) [u]) R E s:=by
 refine o_ (kla_callFunE hroom ho rfl hco hgen rfl hcd ?_);rw[hbind];refine az (wpAny_newFunctionEnv (fun y hy=>c.Lf y hy) (fun y hy=>by rw[dE.mp hy];exact hp) (fun h₁ hns hsb=>?_) c.kind);have hk:∀b o,s.heap.get? b=some o->h₁.get? b=some o:=fun b o e=>hsb.extBut b o (bS (bg e)) (b0 _ e);refine⟨(I.ok.mod.nolimit.keeps I.bk).keeps hk,?_⟩;show fx _ _ (.expr body (envX qual sc s.heap.objs.size f (.ref c') (fJ sc X.env))) _ _;refine kla_codeExpr ?_;have J:=aaX (tk:=s.toks + [(p,u)].length) (qual:=qual) (f:=f) (cd:=.ref c') c hp I rv hA hfr hns hk;refine dQ (hb [] _ (yM v caps σ) H Q J ht) (fun r s' ⟨w,H',J',rw',q⟩=>?_) fun _ _ z=>z.elim;exact hQ r s' ⟨w,H',J'.os,J'.bare,J'.base,J'.hok,rw',q⟩
end
section
variable{X:Cx}{pins:List (ab×Obj)}{σ:St}
def amF(vs:Array aa)(c:Nat):Obj:={ cls:=.type "list",dict:=none,data:=.seq vs c,slots:=#[] }
def aea(X:Cx)(Pv:Hp->Prop)(k:Int)(H:Hp)(s:ae)(r:aa)(s':ae):Prop :=
 ∃t H',r=.int k t/\s'.os=s.os/\o9 s'.gens/\Un (pA X.stack) [] H H' s.heap s'.heap/\yg X.prog X.w H' s'.heap/\Pv H'
abbrev ZJ(kf:Nat->Int):Nat->Nat->Bool:=fun i j=>decide (kf i > kf j)
theorem CP{H H':Hp}{s s':ae}{b:ab}{o:Obj}(I:Inv X pins σ H s)(f:pZ X pins H b)(e:s.heap.get? b=some o)(u:Un (pA X.stack) [] H H' s.heap s'.heap):s'.heap.get? b=some o/\pZ X pins H' b:=by have nf:b∉pA X.stack:=fun z=>(bz.mp (I.uX b z)).elim f.2.1 f.2.2.1;exact⟨u.keep b o e f.1 nf (by simp),u.free b o e f.1 (by simp),f.2⟩
theorem agO{l f it S:ab}{fo:Obj}{xs:List V}{kf:Nat->Int}{Pv:Hp->Prop}{dv:aa}{R:Result->ae->Prop}(hc:X.calm=true)(hSI:S≠it)(hl:∀H,Pv H->rG X.K H l xs)
  (turn:∀(j:Nat) (v:V) (u:aa) (s:ae) (H:Hp),xs[j]?=some v->RelV v u->Inv X pins σ H s->Pv H->s.heap.get? f=some fo->ai (ar X.prog X.w) X.A.in1 (call (.ref f) [u]) (aea X Pv (kf j) H s) (fun _ _=>False) s)
  (hf:∀(H H':Hp) (s s':ae),Inv X pins σ H s->s.heap.get? f=some fo->Un (pA X.stack) [] H H' s.heap s'.heap->H f=none->s'.heap.get? f=some fo/\H' f=none) (hfi:f≠it) (hfS:f≠S)
  (hR:∀(H:Hp) (s:ae) (v:V) (u:aa),Inv X pins σ H s->Pv H->xs[eW (ZJ kf) (xs.length - 1)]?=some v->RelV v u->R (.ok (.ret u)) s) :
  ∀(r j:Nat) (H:Hp) (s:ae) (vb:V) (ub:aa) (tb:Tok) (c:Nat),xs.length - (j + 1)=r->j + 1<=xs.length->Inv X pins σ H s->Pv H->H f=none->pZ X pins H it->pZ X pins H S->s.heap.get? f=some fo->s.heap.IsListIter it l (j + 1) ->
   xs[eW (ZJ kf) j]?=some vb->RelV vb ub->s.heap.get? S=some (amF #[ub,.int (kf (eW (ZJ kf) j)) tb] c) ->
   fx (ar X.prog X.w) X.A (.builtin "max.loop" ⟨[.ref it,.ref f,.ref S],[("default",dv)]⟩) R s:=by
 have hname:(toString "max"++toString ".loop":String)="max.loop":=by decide
 intro r
 induction r with
 |zero =>
  intro j H s vb ub tb c hr hj I pv hfn fi fS hfo hit hvb rb hS;have hin:j + 1=xs.length:=by lia
  obtain⟨its,rv,p,hz⟩:=I.list (hl H pv);have hlen:its.length=xs.length:=rv.length.symm;have hli:l≠it:=fun z=>by subst z;obtain⟨o,ho,hc',_⟩:=p.isList;obtain⟨o',ho',hc'',_⟩:=hit;rw[ho]at ho';cases ho';rw[hc']at hc'';injection hc'' with z;exact absurd z (by decide)
  have W:=nE (prog:=X.prog) (w:=X.w) (A:=X.A.in1) (I.ok.hd hc) it l hli its.toArray;have hsz:its.toArray.size=xs.length:=by simp[hlen]
  refine g8 vu ?_;rw[iA kM _];show ai _ X.A.in1 (seqItems? (.ref S) >>= _) _ _ _;refine af (l6 hS rfl ?_);show ai _ X.A.in1 (tryCatch (dS (.ref it)) _ >>= _) _ _ _;refine af (kN (W.done _ _ _ ⟨by rw[hsz,<- hin];exact hit,p.isList⟩ fun h' tk' hk'=>?_));have hS':=hk' S _ (by simpa using hSI) hS;show ai _ X.A.in1 (j_ S (fun _=>#[]) >>= _) _ _ _;refine af ?_;refine hG hS' rfl (af (oB (az ?_)));have I2:Inv X pins σ H { s with heap:=h'.update S (cE fun _=>#[]),toks:=tk' }:=I.uq (ch:=[it,S]) (fun b o hb e=>by
   have h1:b≠it:=fun z=>hb (by simp[z]);have h2:S≠b:=fun z=>hb (by simp[z]);exact(fm _ _ h2).trans (hk' b o (by simpa using h1) e)) (fun b hb=>by
   rcases bz.mp hb with z|hb
   ·rw[z];exact fi
   ·rw[dE.mp hb];exact fS)
  exact hR H _ vb ub I2 pv (by rw[<- hin];exact hvb) rb
 |succ r ih =>
  intro j H s vb ub tb c hr hj I pv hfn fi fS hfo hit hvb rb hS;have hlt:j + 1 < xs.length:=by lia
  obtain⟨its,rv,p,hz⟩:=I.list (hl H pv);have hlen:its.length=xs.length:=rv.length.symm;have hli:l≠it:=fun z=>by subst z;obtain⟨o,ho,hc',_⟩:=p.isList;obtain⟨o',ho',hc'',_⟩:=hit;rw[ho]at ho';cases ho';rw[hc']at hc'';injection hc'' with z;exact absurd z (by decide)
  have W:=nE (prog:=X.prog) (w:=X.w) (A:=X.A.in1) (I.ok.hd hc) it l hli its.toArray;have hsz:its.toArray.size=xs.length:=by simp[hlen]
  refine g8 vu ?_;rw[iA kM _];show ai _ X.A.in1 (seqItems? (.ref S) >>= _) _ _ _;refine af (l6 hS rfl ?_);show ai _ X.A.in1 (tryCatch (dS (.ref it)) _ >>= _) _ _ _;refine af (kN (W.item (j + 1) _ _ _ (by rw[hsz];exact hlt) ⟨hit,p.isList⟩ fun u h' tk' hP hst' hk'=>?_));have hu:its[j + 1]?=some u:=by simpa using hP
  obtain⟨v,hv,ru⟩:=Vals.get' rv hu;have I1:Inv X pins σ H { s with heap:=h',toks:=tk' }:=I.uq (ch:=[it]) (fun b o hb e=>hk' b o hb e) (fun b hb=>by rw[dE.mp hb];exact fi);have hS1:=hk' S _ (by simpa using hSI) hS;have hf1:=hk' f _ (by simpa using hfi) hfo;obtain⟨oI',hoI',hoc,hod⟩:=id hst'.1;show ai _ X.A.in1 (tryCatch (du [u] (call (.ref f) [u])) _ >>= _) _ _ _;refine af (kN (ez (dQ (turn (j + 1) v u _ H hv ru I1 pv hf1) (fun x s'' he=>?_) fun _ _ hF=>hF.elim)));obtain⟨t2,H2,rfl,os2,ba2,un2,ok2,pv2⟩:=he;have I2:Inv X pins σ H2 s'':=I1.call' (ch:=[]) os2 un2 ok2 ba2 (fun b z=>absurd z (by simp));obtain⟨hS2,fS2⟩:=CP I1 fS hS1 un2;obtain⟨hI2,fi2⟩:=CP I1 fi hoI' un2;obtain⟨hf2,agQ⟩:=hf H H2 _ s'' I1 hf1 un2 hfn;have hit2:s''.heap.IsListIter it l (j + 1 + 1):=⟨oI',hI2,hoc,hod⟩
  show ai _ X.A.in1 (tryCatch (du [u,.int (kf (j + 1)) t2] (richCompare .Gt (.int (kf (j + 1)) t2) (.int (kf (eW (ZJ kf) j)) tb) >>= _)) _ >>= _) _ _ _;refine af (kN (ez (af (CmpOf.ints_gt (prog:=X.prog) (w:=X.w) (A:=X.A.in1) (P:=fun i v=>∃t,v=.int (kf i) t) kf (fun i v h=>h) (j + 1) (eW (ZJ kf) j) _ _ _ _ _ ⟨t2,rfl⟩ ⟨tb,rfl⟩ ?_))));refine af (ez (kU ?_));refine af (oB (az ?_));cases hb:ZJ kf (j + 1) (eW (ZJ kf) j) with
  |true =>
   have hb':decide (kf (j + 1) > kf (eW (ZJ kf) j))=true:=hb;simp only[hb',if_true];refine af ?_;refine hG hS2 rfl (af (oB ?_));rw[hname];have kp:∀b o,b∉[S]->s''.heap.get? b=some o->(s''.heap.update S (cE fun _=>#[u,.int (kf (j + 1)) t2])).get? b=some o:=fun b o hb e=>(fm _ _ (fun z:S=b=>hb (by simp[z]))).trans e;have I3:Inv X pins σ H2 { s'' with heap:=s''.heap.update S (cE fun _=>#[u,.int (kf (j + 1)) t2]),toks:=s''.toks }:=I2.uq (ch:=[S]) kp (fun b hb=>by rw[dE.mp hb];exact fS2);have e1:eW (ZJ kf) (j + 1)=j + 1:=by simp only[eW,hb,if_true]
   refine az ⟨gu kM _,ih (j + 1) H2 _ v u t2 _ (by lia) hlt I3 pv2 agQ fi2 fS2 (kp f _ (by simpa using hfS) hf2) ⟨oI',kp it _ (by simpa using hSI.symm) hI2,hoc,hod⟩ (by rw[e1];exact hv) ru (by rw[e1];exact fg _ hS2 rfl)⟩
  |false =>
   have hb':decide (kf (j + 1) > kf (eW (ZJ kf) j))=false:=hb;simp only[hb',bq,if_false];refine af (oB ?_);rw[hname];have e1:eW (ZJ kf) (j + 1)=eW (ZJ kf) j:=by simp only[eW,hb,bq,if_false]
   refine az ⟨gu kM _,ih (j + 1) H2 _ vb ub tb c (by lia) hlt I2 pv2 agQ fi2 fS2 hf2 hit2 (by rw[e1];exact hvb) rb (by rw[e1];exact hS2)⟩
end
section
variable{X:Cx}{pins:List (ab×Obj)}{σ:St}
theorem Xg(a v d:aa):iL "max" ⟨[a],[("key",v),("default",d)]⟩:=by unfold iL;kernel_rfl
theorem aaY{l f:ab}{fo:Obj}{xs:List V}{kf:Nat->Int}{Pv:Hp->Prop}{dv:aa}{Q:aa->ae->Prop}{H:Hp}{s:ae}(hc:X.calm=true)(I:Inv X pins σ H s)(pv:Pv H)(hl:∀H,Pv H->rG X.K H l xs)
  (turn:∀(j:Nat) (v:V) (u:aa) (s:ae) (H:Hp),xs[j]?=some v->RelV v u->Inv X pins σ H s->Pv H->s.heap.get? f=some fo->ai (ar X.prog X.w) X.A.in1 (call (.ref f) [u]) (aea X Pv (kf j) H s) (fun _ _=>False) s)
  (hfo:s.heap.get? f=some fo) (hfn:H f=none) (hff:f∉pA X.stack)
  (hQ0:xs=[]->∀(H:Hp) (s:ae),Inv X pins σ H s->Pv H->Q dv s)
  (hQ:∀(H:Hp) (s:ae) (v:V) (u:aa),Inv X pins σ H s->Pv H->xs[eW (ZJ kf) (xs.length - 1)]?=some v->RelV v u->Q u s) :
  ai (ar X.prog X.w) X.A (call (.builtin "max") [.ref l] [("key",.ref f),("default",dv)]) Q X.xe s:=by
 have hname:(toString "max"++toString ".loop":String)="max.loop":=by decide
 have hf:∀(H H':Hp) (s s':ae),Inv X pins σ H s->s.heap.get? f=some fo->Un (pA X.stack) [] H H' s.heap s'.heap->H f=none->s'.heap.get? f=some fo/\H' f=none:=fun H H' s s' _ e u n=>⟨u.keep f fo e n hff (by simp),u.free f fo e n (by simp)⟩
 refine PyProof.Rows.kmk_tree PySem.F.kind_max PySem.F.plain_max PySem.F.entry_max (Xg _ _ _) ?_;show ai _ X.A.in1 (cq.Builtins.bindParams "max" ["key","default"] 0 ⟨[],[("key",.ref f),("default",dv)]⟩ >>= _) _ _ s;refine af (iE (show cq.Builtins.bindParams "max" ["key","default"] 0 ⟨[],[("key",.ref f),("default",dv)]⟩=pure [some (.ref f),some dv] from by first|rfl|kernel_rfl) ?_);refine af (az ?_);obtain⟨its,rv,p,hz⟩:=I.list (hl H pv);have hlen:its.length=xs.length:=rv.length.symm;refine af (oP p.isList ?_);refine af (fN ?_);rw[hname];have sz:∀(h:Heap) (o:Obj),(h.push o).objs.size=h.objs.size + 1:=fun h o=>nB ..;generalize hO:({ cls:=.type "list_iterator",data:=.fields #[.ref l,.int 0 0] }:Obj)=O at *;have akh:f < s.heap.objs.size:=bg hfo;have apg:l < s.heap.objs.size:=by obtain⟨_,e,_⟩:=p.isList;exact bg e
 have kp:∀b o,s.heap.get? b=some o->((s.heap.push O).push { cls:=.type "list",data:=.seq ([]:List aa).toArray }).get? b=some o:=fun b o e=>b0 _ (b0 _ e);have I1:Inv X pins σ H { s with heap:=(s.heap.push O).push { cls:=.type "list",data:=.seq ([]:List aa).toArray } }:=I.kept (t':=s.toks) kp;have fi:pZ X pins H s.heap.objs.size:=I.Qu (bj _) (I.hok.fresh (bj _));have fS:pZ X pins H (s.heap.push O).objs.size:=I.Qu (by rw[sz];lia) (I.hok.fresh (by rw[sz];lia));have hSI:(s.heap.push O).objs.size≠s.heap.objs.size:=by rw[sz];lia
 have hit:((s.heap.push O).push { cls:=.type "list",data:=.seq ([]:List aa).toArray }).IsListIter s.heap.objs.size l 0:=by subst hO;exact⟨_,b0 _ (cy _ rfl),rfl,rfl⟩
 have hS:((s.heap.push O).push { cls:=.type "list",data:=.seq ([]:List aa).toArray }).get? (s.heap.push O).objs.size=some (amF #[] 0):=cy _ rfl;refine az ⟨gu kM _,?_⟩;show fx (ar X.prog X.w) X.A (.builtin "max.loop" ⟨[.ref s.heap.objs.size,.ref f,.ref (s.heap.push O).objs.size],[("default",dv)]⟩) _ _;have W:=nE (prog:=X.prog) (w:=X.w) (A:=X.A.in1) (I.ok.hd hc) s.heap.objs.size l (bS apg) its.toArray;have hsz:its.toArray.size=xs.length:=by simp[hlen]
 refine g8 vu ?_;rw[iA kM _];show ai _ X.A.in1 (seqItems? (.ref (s.heap.push O).objs.size) >>= _) _ _ _;refine af (l6 hS rfl ?_);show ai _ X.A.in1 (tryCatch (dS (.ref s.heap.objs.size)) _ >>= _) _ _ _;have hpl:(((s.heap.push O).push { cls:=.type "list",data:=.seq ([]:List aa).toArray })).IsList l its.toArray:=(p.isList.push _).push _;by_cases hn:xs=[]
 ·have h0:its.toArray.size=0:=by rw[hsz,hn];rfl
  refine af (kN (W.done _ _ _ ⟨by rw[h0];exact hit,hpl⟩ fun h' tk' hk'=>?_));have I2:Inv X pins σ H { s with heap:=h',toks:=tk' }:=Inv.uq (s:={ s with heap:=(s.heap.push O).push { cls:=.type "list",data:=.seq ([]:List aa).toArray } }) (t':=tk') I1 (ch:=[s.heap.objs.size]) (fun b o hb e=>hk' b o hb e) (fun b hb=>by rw[dE.mp hb];exact fi);refine af (g_ (az ?_));exact hQ0 hn H _ I2 pv
 ·have h0:0 < xs.length:=vw.mpr hn;refine af (kN (W.item 0 _ _ _ (by rw[hsz];exact h0) ⟨hit,hpl⟩ fun u h' tk' hP hst' hk'=>?_));have hu:its[0]?=some u:=by simpa using hP
  obtain⟨v,hv,ru⟩:=Vals.get' rv hu;have I2:Inv X pins σ H { s with heap:=h',toks:=tk' }:=Inv.uq (s:={ s with heap:=(s.heap.push O).push { cls:=.type "list",data:=.seq ([]:List aa).toArray } }) (t':=tk') I1 (ch:=[s.heap.objs.size]) (fun b o hb e=>hk' b o hb e) (fun b hb=>by rw[dE.mp hb];exact fi);have hS1:=hk' _ _ (by simpa using hSI) hS;have hf1:=hk' f _ (by simpa using bS akh) (kp f _ hfo);obtain⟨oI',hoI',hoc,hod⟩:=id hst'.1;show ai _ X.A.in1 (tryCatch (du [u] (call (.ref f) [u])) _ >>= _) _ _ _;refine af (kN (ez (dQ (turn 0 v u _ H hv ru I2 pv hf1) (fun x s'' he=>?_) fun _ _ hF=>hF.elim)));obtain⟨t2,H2,rfl,os2,ba2,un2,ok2,pv2⟩:=he;have I3:Inv X pins σ H2 s'':=I2.call' (ch:=[]) os2 un2 ok2 ba2 (fun b z=>absurd z (by simp));obtain⟨hS2,fS2⟩:=CP I2 fS hS1 un2;obtain⟨hI2,fi2⟩:=CP I2 fi hoI' un2;obtain⟨hf2,agQ⟩:=hf H H2 _ s'' I2 hf1 un2 hfn;refine af ?_;refine hG hS2 rfl ?_;rw[hname];have kp3:∀b o,b∉[(s.heap.push O).objs.size]->s''.heap.get? b=some o->(s''.heap.update (s.heap.push O).objs.size (cE fun _=>#[u,.int (kf 0) t2])).get? b=some o:=fun b o hb e=>(fm _ _ (fun z:(s.heap.push O).objs.size=b=>hb (by simp[z]))).trans e;have I4:Inv X pins σ H2 { s'' with heap:=s''.heap.update (s.heap.push O).objs.size (cE fun _=>#[u,.int (kf 0) t2]),toks:=s''.toks }:=I3.uq (ch:=[(s.heap.push O).objs.size]) kp3 (fun b hb=>by rw[dE.mp hb];exact fS2);have hfS:f≠(s.heap.push O).objs.size:=fun z=>absurd akh (by rw[z,sz];exact Nat.not_lt.mpr (nv _));refine az ⟨gu kM _,agO (kf:=kf) (Pv:=Pv) (fo:=fo) hc hSI hl turn hf (bS akh) hfS (fun H s v u I pv e r=>hQ H s v u I pv e r) (xs.length - (0 + 1)) 0 H2 _ v u t2 _ rfl h0 I4 pv2 agQ fi2 fS2 (kp3 f _ (by simpa using hfS) hf2) ⟨oI',kp3 _ _ (by simpa using hSI.symm) hI2,hoc,hod⟩ hv ru (fg _ hS2 rfl)⟩
end
section
variable{X:Cx}{pins:List (ab×Obj)}{σ:St}{H:Hp}{s:ae}
theorem Bb{pos:Pos}{l:List aa}{a b:Int}{ta tb:Tok}{c:aa}(h:TriplesOk l){v:aa}(e:kQ pos (l++[.int a ta,.int b tb,c])=some v):kQ pos l=some v∨v=c:=by
 fun_induction TriplesOk l with
 |case1 =>
  simp only[rS,kQ]at e;split at e
  ·exact .inr (cz e).symm
  ·cases e
 |case2 i t j u d rest ih =>
  simp only[u5,kQ]at e ⊢;split at e
  ·rename_i hc;rw[if_pos hc];exact .inl e
  ·rename_i hc;rw[if_neg hc];exact ih h e
 |case3=>exact h.elim
theorem MF{l:List aa}{a b:Int}{ta tb:Tok}{c:aa}(h:TriplesOk l):TriplesOk (l++[.int a ta,.int b tb,c]):=by
 fun_induction TriplesOk l with
 |case1=>trivial
 |case2 i t j u d rest ih=>exact ih h
 |case3=>exact h.elim
structure Made (X:Cx)(pins:List (ab×Obj))(σ:St)(H:Hp)(P:ab)(q:Str)(params:k7)(body:ag)(sc:Scope)(f c':ab)(pm ctv:aa)(H':Hp)(s':ae):Prop where
 inv:Inv X pins σ H' s'
 hs:H'=H∨∃a,H a=none/\H'=upd H a (.Qo q)
 Qo:H' c'=some (.Qo q)
 obj:s'.heap.get? f=some (kla_obj "<lambda>" q params body sc (fJ sc X.env) pm c' ctv)
 fn:H' f=none
 ff:f∉pA X.stack
theorem aeb{P c:ab}{q:Str}{params:k7}{body:ag}{sc:Scope}{pos:Pos}(I:Inv X pins σ H s) (hP:H P=some (.tab q)) (hcode:X.env.code=.ref c) (hhd:h_ X.K c P=true) (hq:X.env.qual++("<lambda>":Str)=q) (hex:X.ex=[])
  (hcl:closureFor sc X.env=pure (fJ sc X.env)) (hdef:defaultsOf params X.env=([],[]))
  {R:aa->ae->Prop}(hR:∀f c' pm ctv H' s',Made X pins σ H P q params body sc f c' pm ctv H' s'->R (.ref f) s') :
  ai (ar X.prog X.w) X.A (aS (.Lambda params body sc pos) X.env) R X.xe s:=by
 refine kla_eval hdef ?_;rw[hq];have hgs:s.heap.Ns bX X.mg:=I.ok.mod.glob.keeps I.bk;have C:CodeHd s.heap c P:=codeHd_of_K I.Vu hhd;obtain⟨ps,e1,e2,e3⟩:=(show fD X.prog X.w H s.heap P (.tab q) from I.hok P _ hP)
 obtain⟨bm,ob,b1,b2,b3,b4,b5,b6⟩:=I.ok.mod.bm;have b3s:=I.bk _ _ b3;have hgP:bX≠P:=fun z=>by obtain⟨o,es,ep,e,hd,_⟩:=hgs;rw[z,e1]at e;cases e;cases hd
 have hbP:bm≠P:=fun z=>by rw[z,e1]at b3s;cases b3s;cases b4
 have hbG:bm≠bX:=fun z=>by obtain⟨o,es,ep,e,hd,_⟩:=hgs;rw[z,e]at b3s;cases b3s;rw[hd]at b6;cases b6
 have hB:s.heap.BuiltinsAt X.mg P:=⟨bm,ob,b1,b2,hbG,hbP,b3s,b4,b5,b6⟩
 have abB:∀{b:ab},s.heap.objs.size<=b->b∉pA X.stack:=fun {b} hb z=>by
  rcases bz.mp (I.uX b z) with z|z
  ·exact absurd I.lt (by rw[<- z];exact Nat.not_lt.mpr hb)
  ·exact I.abB hb z
 cases ca:kQ pos ps.toList with
 |some v =>
  obtain⟨c',rfl,hc'⟩:=e3 pos v ca;refine kla_makeFunctionHit (mg:=X.mg) hcl I.ok.glob hgs hcode C e1 e2 ca hB fun ctv h' tk hk hsz=>?_;have hk2:∀b o,s.heap.get? b=some o->(h'.push { cls:=.type "function",data:=.func (kla_fn "<lambda>" q params body sc (fJ sc X.env) ((X.mg "__name__").getD .none) (.ref c') ctv) }).get? b=some o:=fun b o e=>b0 _ (hk b o e);exact hR _ c' _ ctv H _ ⟨I.kept (t':=tk) hk2,.inl rfl,hc',cy _ rfl,I.hok.fresh hsz,abB hsz⟩
 |none =>
  refine kla_makeFunction (mg:=X.mg) hcl I.ok.glob hgs hcode C e1 e2 ca hgP hB fun c' ctv h' tk hx hge hlt hrec htb=>?_;have hsz:s.heap.objs.size<=h'.objs.size:=cx hge (fv hlt);have hcn:H c'=none:=I.hok.fresh hge;have hcP:c'≠P:=fun z=>by rw[z,hP]at hcn;cases hcn
  obtain⟨c2,oc,vs,t,ec,hoc,hod,hv⟩:=hrec;cases ec
  let O:Obj:=kla_obj "<lambda>" q params body sc (fJ sc X.env) ((X.mg "__name__").getD .none) c' ctv
  have up:∀b u,H b=some u->upd H c' (.Qo q) b=some u:=fun b u e=>by rw[aZ (aY e hcn)];exact e
  have hk2:∀b o,b≠P->s.heap.get? b=some o->(h'.push O).get? b=some o:=fun b o hb e=>b0 _ (hx b o hb e);have amH:(h'.push O).get? P=some (tabObj (ps++#[cn pos.line,cn pos.col,.ref c'])):=b0 _ htb;have un:Un (pA X.stack) [] H (upd H c' (.Qo q)) s.heap (h'.push O):=by
   have old:∀b o,s.heap.get? b=some o->b≠c':=fun b o e=>bS (dP (bg e) hge);refine⟨fun b o e n _ _=>hk2 b o (fun z=>by rw[z,hP]at n;cases n) e,fun b o e n _ _=>⟨o.slots,hk2 b o (fun z=>by rw[z,hP]at n;cases n) e⟩,fun b o e n _=>by rw[aZ (old b o e)];exact n,fun b o e _=>?_,fun b xs e=>up b _ e,fun b o u e=>up b _ e,fun b ps' e=>⟨#[],by rw[up b _ e];simp⟩⟩;by_cases hb:b=P
   ·subst hb;exact⟨_,amH⟩
   ·exact⟨o,hk2 b o hb e⟩
  have ok:yg X.prog X.w (upd H c' (.Qo q)) (h'.push O):=fun b u e=>by
   by_cases hbc:b=c'
   ·subst hbc;rw[bA]at e;cases e;exact⟨oc,vs,t,b0 _ hoc,hod,hv⟩
   ·rw[aZ hbc]at e;by_cases amI:b=P
    ·subst amI;rw[hP]at e;cases e;refine⟨_,amH,?_,fun pos' v' e'=>?_⟩
     ·rw[ir];exact MF e2
     ·rw[ir]at e';rcases Bb e2 e' with e'|e'
      ·obtain⟨c3,h1,h2⟩:=e3 pos' v' e';exact⟨c3,h1,up _ _ h2⟩
      ·exact⟨c',e',bA⟩
    ·refine(I.hok b u e).stay (fun c3 v3 h3 e3'=>hk2 c3 v3 (fun z=>?_) e3') (fun c3 e3'=>up _ _ e3') (fun c3 xs e3'=>up _ _ e3') fun c3 q3 e3'=>up _ _ e3';subst z;rcases h3 with h3|h3
     ·exact amI h3.symm
     ·rw[hP]at h3;cases h3
  have I2:Inv X pins σ (upd H c' (.Qo q)) { s with heap:=h'.push O,toks:=tk }:=I.call' (ch:=[]) rfl un ok I.bare (fun b z=>absurd z (by simp));refine hR _ c' _ ctv _ _ ⟨I2,.inr ⟨c',hcn,rfl⟩,bA,cy _ rfl,?_,abB hsz⟩;rw[aZ (kX hlt)];exact I.hok.fresh hsz
end
def H0(ts:List (ab×Str))(K:ah)(a:ab)(o:HO):Hp:=fun b=>match ts.lookup b with
 |some q=>some (.tab q)
 |none=>if b=a/\K.lookup a=none then some o else none
theorem aec:∀{l:List (ab×Str)}{b:ab}{q:Str},l.lookup b=some q->(b,q)∈l
 | [],_,_,h=>by cases h
 | (c,r)::l,b,q,h=>by
  by_cases e:b=c
  ·subst e;rw[lr]at h;cases h;exact df
  ·rw[i6,show(b == c)=false by simpa using e]at h;exact dt _ (aec h)
theorem aaZ{P:aE}{w:ay}{K:ah}{mg mb:Str->Option aa}{k:Nat}{fa a:ab}{fd:b9}{x:Str}{v:List D->Rs D}{s₁:ae}{vs:List aa}{ns:List Int}{ts:List (ab×Str)}
  (KX:K.In s₁.heap) (hns:s₁.heap.Ns bX mg) (hb:s₁.heap.Ns builtinsNs mb) (hbb:∀x:Str,x≠"__name__"->mb x=ic x) (hlim:s₁.heap.NoLimit) (hbm:∃bm ob,mg "__builtins__"=some (.ref bm)/\bm≠builtinsNs/\s₁.heap.get? bm=some ob/\ob.cls=.type "module"/\ob.dict=some builtinsNs/\ob.data=.plain) (hg:s₁.gens=#[])
  (ha:s₁.heap.get? a=some { cls:=.type "list",data:=.seq vs.toArray }) (hi:PyProof.Rows.IntsAre vs ns) (hl:ns.length<=sizeLine) (hr:lJ k k_)
  (F:∀base:Heap,K.In base->base.Ns bX mg->GF P w K mg base (Gy P w K) k fa fd [x] (spV K 1 v)) (hbind:∀(s:ae) (u:aa),k0 s fd ⟨[u],[]⟩ [(x,u)])
  (hts:abR K=ts) (nd:(ts.map (·.1)).Nodup) (hK0:∀y∈ts,K.lookup y.1=none) (htab:∀y∈ts,s₁.heap.get? y.1=some (tabObj #[])) (hct:∀y∈ts,isCodeTable s₁.heap y.1) (hv:v [.lst (ns.map D.int)]=.ok (.bl true)) :
  fx (ar P w) k_ (.call (.ref fa) ⟨[.ref a],[]⟩) (fun r s'=>r=.ok (.ret (.bool true))/\OldK s₁.heap s'.heap/\s'.os=s₁.os/\o9 s'.gens) s₁:=by
 have rv:=uc hi;have lenV:=hi.length
 let o0:HO:=.CT { cls:=.type "list",data:=.seq vs.toArray } (.lst (ns.map V.int))
 let H:Hp:=H0 ts K a o0
 have lk:∀{b:ab}{q:Str},ts.lookup b=some q->(b,q)∈ts:=fun h=>aec h;have lkm:∀{y:ab×Str},y∈ts->ts.lookup y.1=some y.2:=fun {y} hy=>by
  clear hts hK0 htab hct lk
  induction ts with
  |nil=>cases hy
  |cons z ts ih =>
   rw[b_,jn]at nd;rcases bz.mp hy with e|hy2
   ·subst e;obtain⟨y1,y2⟩:=y;exact lr
   ·have ne:y.1≠z.1:=fun e=>nd.1 (e▸mB hy2);obtain⟨z1,z2⟩:=z;rw[i6,show(y.1 == z1)=false by simpa using ne];exact ih nd.2 hy2
 have ZK:∀{b:ab}{u:HO},H b=some u->(∃q,(b,q)∈ts/\u=.tab q)∨(b=a/\K.lookup a=none/\u=o0):=fun {b u} e=>by
  have e':(match ts.lookup b with|some q=>some (HO.tab q)|none=>if b=a/\K.lookup a=none then some o0 else none)=some u:=e;cases h:ts.lookup b with
  |some q=>rw[h]at e';exact .inl ⟨q,lk h,(cz e').symm⟩
  |none =>
   rw[h]at e';dsimp only at e';by_cases c:b=a/\K.lookup a=none
   ·rw[if_pos c]at e';exact .inr ⟨c.1,c.2,(cz e').symm⟩
   ·rw[if_neg c]at e';cases e'
 have hok:yg P w H s₁.heap:=fun b u e=>by
  rcases ZK e with ⟨q,hq,rfl⟩|⟨rfl,_,rfl⟩
  ·exact⟨#[],htab _ hq,trivial,fun pos v z=>by cases z⟩
  ·exact⟨ha,by rw[b8];exact hl,vs,_,rv,ha⟩
 have MJ:∀{b:ab}{o:Obj},s₁.heap.get? b=some o->H b=none->(Ku s₁.heap H).get? b=some o:=fun e n=>abA e n;have ahW:∀{b:ab}{o:Obj},s₁.heap.get? b=some o->(∀vs n,o.data≠.seq vs n)->(∀vs,o.data≠.fields vs)->H b=none:=fun {b o} e d1 d2=>by
  cases q:H b with
  |none=>rfl
  |some u =>
   rcases ZK q with ⟨q',hq,rfl⟩|⟨rfl,_,rfl⟩
   ·have:=htab _ hq;rw[e]at this;cases this;exact(d2 _ rfl).elim
   ·rw[ha]at e;cases e;exact(d1 _ _ rfl).elim
 have nsK:∀{b:ab}{m:Str->Option aa},s₁.heap.Ns b m->(Ku s₁.heap H).Ns b m:=fun {b m} ⟨o,es,ep,e,d,r⟩=>⟨o,es,ep,MJ e (ahW e (fun _ _ z=>by rw[d]at z;cases z) (fun _ z=>by rw[d]at z;cases z)),d,r⟩
 have hKb:K.In (Ku s₁.heap H):=fun b o e=>MJ (KX b o e) (by
  cases q:H b with
  |none=>rfl
  |some u =>
   rcases ZK q with ⟨q',hq,rfl⟩|⟨rfl,hk,rfl⟩
   ·rw[hK0 _ hq]at e;cases e
   ·rw[hk]at e;cases e)
 have hM:Mod K mg (Ku s₁.heap H):=⟨hKb,nsK hns,⟨mb,nsK hb,hbb⟩,let ⟨mc,h1,h2⟩:=hlim;⟨mc,nsK h1,h2⟩,let ⟨bm,ob,e1,e2,e3,e4,e5,e6⟩:=hbm;⟨bm,ob,e1,e2,MJ e3 (ahW e3 (fun _ _ z=>by rw[e6]at z;cases z) (fun _ z=>by rw[e6]at z;cases z)),e4,e5,e6⟩⟩
 have e0:aft P w K mg (Ku s₁.heap H) k_ [] s₁ H:=⟨rfl,hM,fun b o e=>afj e,Nat.le_of_eq (aaf _ _),trivial,fun b hb=>absurd (show b∈([]:List ab) from hb) (by simp),hok,.of_eq hg⟩
 have hS:rG K H a (ns.map V.int):=by
  cases hk:K.lookup a with
  |some o =>
   have e:=KX a o hk;rw[ha]at e;cases e;exact .inr ⟨_,vs.toArray,_,hk,rfl,rfl,rfl,by rw[cw,lenV];exact hl,by simpa using rv⟩
  |none =>
   refine .inl (.inr ⟨{ cls:=.type "list",data:=.seq vs.toArray },?_⟩);show(match ts.lookup a with|some q=>some (HO.tab q)|none=>if a=a/\K.lookup a=none then some o0 else none)=_;cases h:ts.lookup a with
   |some q=>have:=htab _ (lk h);rw[ha]at this;cases this
   |none=>dsimp only;rw[if_pos ⟨rfl,hk⟩]
 have hco:Cok K H:=fun y hy=>by rw[hts]at hy;show(match ts.lookup y.1 with|some q=>some (HO.tab q)|none=>_)=_;rw[lkm hy]
 have tp0:∀b xs,H b=some (.tup xs)->(fun b=>match H b with|some (.tab _)=>none|u=>u) b=some (.tup xs):=fun b xs e=>by dsimp only;rw[e]
 have hsp:spV K 1 v [.ref a] H (fun u H'=>u=.bl true/\∀y∈ts,H' y.1=some (.tab y.2)) (fun _ _ _=>False):=by
  let G:Hp:=fun b=>match H b with|some (.tab _)=>none|u=>u
  have gh:Same G H:=fun b u e=>by
   have e':(match H b with|some (.tab _)=>none|u=>u)=some u:=e;cases q:H b with
   |none=>rw[q]at e';cases e'
   |some z =>
    rw[q]at e';cases z with
    |tab _=>cases e'
    |_=>exact e'
  have hSG:rG K G a (ns.map V.int):=by
   rcases hS with (h|⟨o,h⟩)|h
   ·refine .inl (.inl ?_);show(match H a with|some (.tab _)=>none|u=>u)=_;rw[h]
   ·refine .inl (.inr ⟨o,?_⟩);show(match H a with|some (.tab _)=>none|u=>u)=_;rw[h]
   ·exact .inr h
  refine⟨rfl,G,[.lst (ns.map D.int)],⟨.refl gh tp0,hco⟩,bL.one (aW.mpr ⟨a,_,rfl,hSG,ud ns⟩),?_⟩;rw[hv];exact fun u H' G' e r=>⟨bK.mp r,fun y hy=>e.hh _ _ (hco y (by rw[hts];exact hy))⟩
 refine lh ((F _ hKb (nsK hns)).run k_ [] s₁ H ⟨[.ref a],[]⟩ [.ref a] [.ref a] _ _ hr e0 (hbind s₁ (.ref a)) (.cons rfl .nil) hsp) fun r s' h=>?_;cases r with
 |error e =>
  obtain⟨_,_,_,_,_,_,_,_,_,_,z⟩:=h;exact z.elim
 |ok fl =>
  cases fl with
  |next=>exact fE h
  |brk=>exact fE h
  |cont=>exact fE h
  |ret u =>
   obtain⟨v',H',os,bare,un,hok',r',q,qt⟩:=h;subst q;obtain rfl:u=aa.bool true:=r';have keep:∀b o,s₁.heap.get? b=some o->(∀q,(b,q)∉ts)->s'.heap.get? b=some o:=fun b o e nt=>by
    cases q:H b with
    |none=>exact un.keep b o e q (by intro z;exact absurd (show b∈([]:List ab) from z) (by simp)) (by simp)
    |some u =>
     rcases ZK q with ⟨q',hq,rfl⟩|⟨rfl,hk,rfl⟩
     ·exact(nt q' hq).elim
     ·have z2:=un.CV b _ _ q;obtain⟨e2,_⟩:=hok' b _ z2;rw[ha]at e;cases e;exact e2
   refine⟨rfl,⟨fun b o e=>?_,fun b o e=>un.there b o e (by simp)⟩,os,bare⟩;by_cases c:∃q,(b,q)∈ts
   ·obtain⟨q,hq⟩:=c;have e1:=htab _ hq;rw[e]at e1;cases e1;obtain⟨ps,e2,_⟩:=(show fD P w H' s'.heap b (.tab q) from hok' b _ (qt _ hq))
    exact .inr (.inl ⟨hct _ hq,rfl,#[],ps,rfl,by rw[e2];simp⟩)
   ·exact .inl (keep b o e fun q hq=>c ⟨q,hq⟩)
theorem MK{K:ah}{h:Heap}{c P:ab}(X:K.In h)(e:h_ K c P=true):isCodeTable h P:=by obtain⟨o,vs,_,_,_,_,_,_,_,h1,h2,h3,h4,_⟩:=codeHd_of_K X e;exact⟨c,o,vs,h1,h2,h3,h4⟩
theorem agR{l:k9}{k:Nat}{q:aE}{loose:List Str}{XP:(Str->Option aa)->Heap->Prop}{YP:ay->Heap->Prop}{d:DefRec}{K:Params->Frag}{v:List D->Rs D}{ts:List (ab×Str)}(hn:l.most=some 63)(hdf:d.params.defaults=[])(hr:lJ k k_)
  (hY:∀(w:ay) (h:Heap),YP w h->(K w.params).In h) (hT:∀(w:ay) (h:Heap),YP w h->∀y∈ts,h.get? y.1=some (tabObj #[])) (nd:(ts.map (·.1)).Nodup) (apj:∀w:ay,abR (K w.params)=ts) (hK0:∀w:ay,∀y∈ts,(K w.params).lookup y.1=none) (hcd:∀w:ay,∀y∈ts,∃c,h_ (K w.params) c y.1=true)
  (hv:∀ns:List Int,ns.length<=63->v [.lst (ns.map D.int)]=.ok (.bl true))
  (F:∀(w:ay) (mg:Str->Option aa) (fa:ab) (h:Heap),(K w.params).In h->h.Ns bX mg->mg d.name=some (.ref fa) ->
   ∃fd:b9,(∀(s:ae) (u:aa),k0 s fd ⟨[u],[]⟩ [("script",u)])/\∀base:Heap,(K w.params).In base->base.Ns bX mg->GF l.prog w (K w.params) mg base (Gy l.prog w (K w.params)) k fa fd ["script"] (spV (K w.params) 1 v)) :
  WalkO q loose XP YP l.row.toRowW d [] (fun f vs=>PySem.call f vs):=by
 refine Att.Qy hn hdf fun w s₀ s₁ mg mb fa o pm cd doc a vs ns G Y ho hd hcd' hmg hobj hints hlen hg=>?_;have KX:=hY w _ Y;obtain⟨fd,hb,hF⟩:=F w mg fa _ KX G.T.g hmg;exact aaZ KX G.T.g G.T.b G.T.builtins G.T.nolimit G.T.bmain hg hobj hints (cx hlen (by decide)) hr hF hb (apj w) nd (hK0 w) (hT w _ Y) (fun y hy=>let ⟨c,e⟩:=hcd w y hy;MK KX e) (hv ns hlen)
def kY(d:D)(caps:List Nat)(ρ:au):au:=.fz d::caps.map fun i=>match ρ[i]? with|some (Sl.fz e)=>Sl.fz e|_=>Sl.no
def tu(fb:au->Rs D)(caps:List Nat)(ρ:au):List D->Rs (List Int)
 | []=>.ok []
 |d::ds=>match fb (kY d caps ρ) with
  | .ok (.int k)=>(tu fb caps ρ ds).bind fun ks=>.ok (k::ks)
  |_=>.no
def Sv(ks:List Int):Nat:=eW (ZJ fun j=>(ks[j]?).getD 0) (ks.length - 1)
def Sw(caps:List Nat)(fa fb fd:au->Rs D):au->Rs D:=fun ρ=>match fa ρ with
 | .ok (.lst ds)=>(match fd ρ with
  | .ok dd=>(match tu fb caps ρ ds with
   | .ok ks=>.ok ((ds[Sv ks]?).getD dd)
   |_=>.no)
  |_=>.no)
 |_=>.no
theorem Kd{fb:au->Rs D}{caps:List Nat}{ρ:au}:∀{ds:List D}{ks:List Int},tu fb caps ρ ds=.ok ks->ks.length=ds.length
 | [],ks,h=>by cases h;rfl
 |d::ds,ks,h=>by
  simp only[tu]at h;split at h
  ·cases e:tu fb caps ρ ds with
   |ok ks'=>rw[e]at h;cases h;simp[Kd e]
   |ex c n=>rw[e]at h;cases h
   |no=>rw[e]at h;cases h
  ·cases h
theorem Ke{fb:au->Rs D}{caps:List Nat}{ρ:au}:∀{ds:List D}{ks:List Int}{j:Nat}{d:D},tu fb caps ρ ds=.ok ks->ds[j]?=some d->fb (kY d caps ρ)=.ok (.int ((ks[j]?).getD 0))
 | [],ks,j,d,h,e=>by simp at e
 |d::ds,ks,j,d',h,e=>by
  simp only[tu]at h;split at h
  ·rename_i k hk;cases e2:tu fb caps ρ ds with
   |ok ks' =>
    rw[e2]at h;cases h;cases j with
    |zero=>simp at e;subst e;simpa using hk
    |succ j=>simpa using Ke e2 (by simpa using e)
   |ex c n=>rw[e2]at h;cases h
   |no=>rw[e2]at h;cases h
  ·cases h
section
variable{X:Cx}{B:Bs}{W:Wi}{K:ah}
theorem Fq{d:D}{caps:List Nat}{ρ:au}:QL (kY d caps ρ):=fun i z q w=>by
 unfold kY at q;cases i with
 |zero=>cases q;cases w
 |succ i =>
  rw[rV,cf]at q;cases e:caps[i]? with
  |none=>rw[e]at q;cases q
  |some k =>
   rw[e]at q;have q':(match ρ[k]? with|some (.fz d)=>Sl.fz d|_=>.no)=z:=cz q;split at q' <;> (subst q';cases w)
theorem aki{σ:St}{H G:Hp}{ρ:au}{caps:List Nat}{d:D}{v:V}(s:SR K B σ H ρ G)(r:Rep K G d v):SR K ⟨G,H,0⟩ (yM v caps σ) H (kY d caps ρ) G:=by
 refine⟨s.yt,by simp[yM,kY],fun i d q=>?_,fun i z q w=>(Fq i z q w).elim,fun i j z z' a q w=>(Fq i z q w).elim,fun i ds a q=>(Fq i _ q rfl).elim,s.co⟩;unfold kY at q;unfold yM;cases i with
 |zero=>cases q;exact⟨v,rfl,r⟩
 |succ i =>
  rw[rV,cf]at q;rw[rV,cf];cases e:caps[i]? with
  |none=>rw[e]at q;cases q
  |some k =>
   rw[e]at q;have q':(match ρ[k]? with|some (.fz d)=>Sl.fz d|_=>.no)=.fz d:=cz q;cases e2:ρ[k]? with
   |none=>rw[e2]at q';cases q'
   |some z =>
    rw[e2]at q';cases z with
    |fz d' =>
     cases q';obtain⟨v,h1,h2⟩:=s.fz k _ e2;exact⟨v,by simp[h1],h2⟩
    |no=>cases q'
    |ow _=>cases q'
    |od _=>cases q'
    |op _=>cases q'
theorem Inv.apk{pins:List (ab×Obj)}{σ:St}{H:Hp}{s:ae}{f:ab}{o:Obj}(I:Inv X pins σ H s)(h1:s.heap.get? f=some o)(h2:H f=none)(h3:f∉pA X.stack)(h4:f≠X.env.locals)(h5:∀v,o.data≠.cell v)(hfs:f∉X.fs):Inv X ((f,o)::pins) σ H s :=
 I.Ck fun p hp=>by
  rcases bz.mp hp with e|hp
  ·subst e;exact⟨h1,h2,h4,hfs,h5⟩
  ·exact I.pin p (eA _ hp)
theorem agS{a body ed:ag}{params:k7}{sc:Scope}{lp p pos k1 k2:Pos}{P c:ab}{q pn:Str}{Nc:List Str}{caps:List Nat}{fa fb fd:au->Rs D}{k:Nat}
  (hc:X.calm=true) (hex:X.ex=[]) (hr:lJ k X.A) (hm:X.mg "max"=none) (hg:Gl X "max") (ha:SE X B W a fa) (hd:SE X B W ed fd)
  (cp:vh X sc (pn::Nc) 1 caps) (hp:sc.names.lookup pn=some .local)
  (hb:∀s H f cd B',SE (akg X X.A.in1 (pn::Nc) s H q sc f cd) B' WF body fb)
  (hP:(P,q)∈abR X.K) (hcode:X.env.code=.ref c) (hhd:h_ X.K c P=true) (hq:X.env.qual++("<lambda>":Str)=q)
  (hdef:defaultsOf params X.env=([],[])) (hco:sc.isCoroutine=false) (hgen:sc.isGenerator=false)
  (hbind:∀(pm ctv u:aa) (c':ab),bindArgs (kla_fn "<lambda>" q params body sc (fJ sc X.env) pm (.ref c') ctv) ⟨[u],[]⟩=pure [(pn,u)])
  (hst:a9 [a] X.env=[(false,aS a X.env)]:=by rfl)
  (he:c6 pos (a9 [a] X.env)=(false,aS a X.env)::c6 pos (a9 [] X.env):=by rfl)
  (hplain:(c6 pos (a9 [a] X.env)).any (·.1)=false:=by rfl)
  (hall:(ik pos (il [⟨some "key",.Lambda params body sc lp,k1⟩,⟨some "default",ed,k2⟩] X.env)).all (·.1.isSome)=true:=by rfl)
  (hkw:(ik pos (il [⟨some "key",.Lambda params body sc lp,k1⟩,⟨some "default",ed,k2⟩] X.env)).any (·.1.isNone)=false:=by rfl)
  (hnm:(ik pos (il [⟨some "key",.Lambda params body sc lp,k1⟩,⟨some "default",ed,k2⟩] X.env)).filterMap (·.1)=[("key":Str),("default":Str)]:=by rfl) :
  SE X B W (.Call (.Name "max" p) [a] [⟨some "key",.Lambda params body sc lp,k1⟩,⟨some "default",ed,k2⟩] pos) (Sw caps fa fb fd):=by
 intro pins s σ H Q I ⟨ρ,G,sr,h⟩;unfold Sw at h;cases ea:fa ρ with
 |no=>rw[ea]at h;exact h.elim
 |ex _ _=>rw[ea]at h;exact h.elim
 |ok da =>
  rw[ea]at h;cases da with
  |lst ds =>
   dsimp only at h;cases ed':fd ρ with
   |no=>rw[ed']at h;exact h.elim
   |ex _ _=>rw[ed']at h;exact h.elim
   |ok dd =>
    rw[ed']at h;dsimp only at h;cases ek:tu fb caps ρ ds with
    |no=>rw[ek]at h;exact h.elim
    |ex _ _=>rw[ek]at h;exact h.elim
    |ok ks =>
     rw[ek]at h;dsimp only at h;have pst:∀v H' G',Ext G H G' H'->Rep X.K G' ((ds[Sv ks]?).getD dd) v->Q v H':=h;refine m_ (uY I hg hm rfl ?_ (by decide) (by decide));refine PyProof.Rows.callWith_kw ?_ he hplain hall hkw;rw[hnm];refine jD (dg ha gP hst pos pins s σ H (fun vs H1=>∃v G1,vs=[v]/\Ext G H G1 H1/\Rep X.K G1 (.lst ds) v) I ⟨ρ,G,sr,?_⟩) fun us s1 ⟨vs,H1,I1,r1,v1,G1,e1,x1,rp1⟩=>?_
     ·rw[ea];exact fun v H1 G1 x r=>⟨v,G1,rfl,x,r⟩
     subst e1;obtain⟨l,xs,rfl,hl,rxs⟩:=aW.mp rp1;cases r1 with|cons rl r1 =>
     cases r1;cases rl;have sr1:=sr.ext x1;refine PyProof.Rows.kws_cons (aeb I1 (sr1.co _ hP) hcode hhd hq hex (rA (cp.cells I1)) hdef fun f c' pm ctv H2 s2 M=>?_);have x2:Ext G1 H1 G1 H2:=by
      rcases M.hs with e|⟨a',n,e⟩
      ·rw[e];exact sr1.yt
      ·rw[e];exact YF sr1.en.gh sr1.en.tp (fun _ z=>by cases z) n
     have sr2:=sr1.ext x2;have hfs:f∉X.fs:=fun z=>M.ff (by
      rcases I.ok.stk with e|⟨e,_⟩
      ·rw[e];exact z
      ·rw[e];unfold pA;rw[kR];split
       ·exact z
       ·exact dt _ z)
     have hfl:f≠X.env.locals:=fun z=>by obtain⟨m,⟨o,es,ep,e,d,_⟩,_⟩:=M.inv.loc;have:=M.obj;rw[z,e]at this;cases this;cases d
     have I2:=Inv.apk M.inv M.obj M.fn M.ff hfl (fun v z=>by cases z) hfs;refine PyProof.Rows.kws_cons (jD (hd _ s2 σ H2 (fun v H3=>∃G3,Ext G1 H2 G3 H3/\Rep X.K G3 dd v) I2 ⟨ρ,G1,sr2,?_⟩) fun u3 s3 ⟨v3,H3,I3,r3,G3,x3,rp3⟩=>?_)
     ·rw[ed'];exact fun v H3 G3 x r=>⟨G3,x,r⟩
     refine PyProof.Rows.kws_nil ?_;have sr3:=sr2.ext x3;have x03:Ext G H G3 H3:=(x1.trans x2).trans x3;have hf3:=I3.pin (f,_) (eA _ df);have I4:Inv X pins σ H3 s3:=I3.Ck fun p hp=>I3.pin p (eA _ (dt _ hp));have hl3:rG X.K G3 l xs:=Same.seq (x2.gg.trans x3.gg) hl;have amK:bL X.K G3 ds xs:=rxs.mono (x2.gg.trans x3.gg);have hlen:ks.length=xs.length:=by rw[Kd ek,rxs.length]
     refine aaY (kf:=fun j=>(ks[j]?).getD 0) (xs:=xs) (Pv:=fun H'=>∃G',Ext G3 H3 G' H') hc I4 ⟨G3,sr3.yt⟩ (fun H' ⟨G',x⟩=>Same.seq (x.gg.trans x.gh) hl3) (fun j v u s' H' hj rv I' pv ho=>?_) hf3.1 hf3.2.1 M.ff (fun hn H' s' I' ⟨G',x⟩=>?_) fun H' s' v u I' ⟨G',x⟩ hv ru=>?_
     ·obtain⟨G',x'⟩:=pv;obtain⟨d,hdj,rd⟩:=amK.get' hj;have aij:H' c'=some (.Qo q):=x'.hh _ _ (x3.hh _ _ M.Qo);obtain⟨oc,vs,t,hoc,hod,hov⟩:=(show fD X.prog X.w H' s'.heap c' (.Qo q) from I'.hok c' _ aij)
      refine adZ (A:=X.A.in1) (t:=tF X.K ⟨G',H',0⟩ WF fb) (Q:=fun w Qz=>w=.int ((ks[j]?).getD 0)/\∃G'',Ext G3 H3 G'' Qz) cp hp I' rv hr.hd I'.ok.frames hr.depth hco hgen ho ⟨c',oc,vs,t,rfl,hoc,hod,hov⟩ (hbind _ _ _ _) (hb _ _ _ _ _) ⟨kY d caps ρ,G',aki (sr3.ext x') (rd.mono x'.gg),?_⟩ fun r s'' ⟨w,Qz,h1,h2,h3,h4,h5,h6,h7⟩=>?_
      ·rw[Ke ek hdj];exact fun w Qz G'' x r=>⟨aM.mp r,G'',x'.trans x⟩
      ·subst h6;obtain⟨t,rfl⟩:=h5;exact⟨t,Qz,rfl,h1,h2,h3,h4,h7⟩
     ·subst hn;have:ds=[]:=by have:=rxs.length;simpa using this
      subst this;exact⟨v3,H',I',r3,pst v3 H' G' (x03.trans x) (by simpa using rp3.mono x.gg)⟩
     ·obtain⟨d,hd1,hd2⟩:=amK.get' hv;have:ds[Sv ks]?=some d:=by unfold Sv;rw[hlen];exact hd1
      exact⟨v,H',I',ru,pst v H' G' (x03.trans x) (by rw[this];exact hd2.mono x.gg)⟩
  |_=>exact h.elim
end
end Vl
namespace Dk
open PySem PySem.Spec
section
variable{prog:aE}{w:ay}{A:a8}{E:aa->ae->Prop}{s:ae}{es:Array kv}{ep:Nat}{D:ab}
theorem agT{R:Result->ae->Prop}(hh:A.handled=none) (hd:(D == f7)=false) (ho:pL s.heap D es ep) (hn:es.size<=1000) (S:ab) (res:aa) (c₀:Nat) (hDS:D≠S) (hS:s.heap.get? S=some { cls:=.type "list",data:=.seq #[] c₀ })
  (hR:∀h' tk acc' c',(∀b o,b≠S->s.heap.get? b=some o->h'.get? b=some o)->h'.get? S=some { cls:=.type "list",dict:=none,data:=.seq acc' c',slots:=#[] } ->
   ItemsOf (fun i v=>∃e,es[i]?=some e/\v=e.key) acc' es.size->R (.ok (.ret res)) { s with heap:=h',toks:=tk }) :
  ai (ar prog w) A.in1 (j9 (.ref S) (.ref D) res)
   (fun gD s'=>match gD with|.done f=>R (.ok f) s'|.again c'=>c'.quiet=true/\fx (ar prog w) A c' R s') (fun e s'=>R (.error e) s') s:=by
 have hSlt:S < s.heap.objs.size:=bg hS;have su:D < s.heap.objs.size:=by obtain⟨o,e,_⟩:=id ho;exact bg e
 have W:=(adJ (prog:=prog) (w:=w) (A:=A.in1) (d:=D) (it:=s.heap.objs.size) (es:=es) (ep:=ep) (by simpa using hh) (bS su)).toS;have hSf:S∉[s.heap.objs.size,D]:=by simp only[bz,gx,or_false,not_or];exact⟨bS hSlt,dm hDS⟩
 have key:∀(h:Heap) (c₁ tk:Nat),h.get? s.heap.objs.size=some (kit D 0 es.size ep)->(∀b o,b≠S->s.heap.get? b=some o->h.get? b=some o) ->
   h.get? S=some { cls:=.type "list",data:=.seq #[] c₁ }->fx (ar prog w) A (.builtin "list.extend.loop" ⟨[.ref S,.ref s.heap.objs.size,res],[]⟩) R { s with heap:=h,toks:=tk }:=by
  intro h c₁ tk hit hk hS₁;refine uC W (by rw[dA];lia) S hSf res es.size 0 _ #[] c₁ rfl (d7 _) ⟨kit_is hit,ho.go fun o e=>hk _ _ hDS e⟩ hS₁ (uS _) fun s' acc' c' hm hS' hacc=>?_;rw[Moved.eq_with hm];refine hR s'.heap s'.toks acc' c' (fun b o hb e=>hm.heap b o (fun hmem=>?_) (hk b o hb e)) hS' hacc;rcases bz.mp hmem with e'|hmem
  ·exact hb e'
  ·exact absurd (bg e) (by rw[dE.mp hmem];exact f9 _)
 unfold j9;refine af (l5 ho.ty ?_);have h1:mv (.ref S) (.ref D)=false:=by simp[mv,dm hDS]
 have h2:(aa.type "dict" == aa.type "list")=false:=by decide
 have h3:(aa.type "dict" == aa.type "tuple")=false:=by decide
 simp only[h1,h2,h3,qa,Bool.or_false,bq,if_false];refine af (adI hd ho ?_);have hD2:pL (s.heap.push (kit D 0 es.size ep)) D es ep:=ho.go fun o e=>b0 _ e;have hS₁:=b0 (kit D 0 es.size ep) hS;have hI:(s.heap.push (kit D 0 es.size ep)).get? s.heap.objs.size=some (kit D 0 es.size ep):=cy _ rfl;refine af (ez (ahQ hD2 ?_));refine wpAny_ite_split (fun _=>?_) (fun _=>az ⟨gu qB _,key _ c₀ _ hI (fun b o _ e=>b0 _ e) hS₁⟩);refine af (g_ ?_);refine af ?_;show ai _ _ (j_ S (·.push .none) >>= fun _=>j_ S (·.pop)) _ _ _;refine af (hG hS₁ rfl ?_);have hS₂:=fg (cE (·.push aa.none)) hS₁ rfl;refine hG (hz:=by seq_fits) hS₂ rfl ?_;have hS₃:=fg (cE (·.pop)) hS₂ rfl;have hSI:S≠s.heap.objs.size:=bS hSlt;refine az ⟨gu qB _,key _ _ _ ?_ (fun b o hb e=>?_) hS₃⟩
 ·exact(fm _ _ hSI).trans ((fm _ _ hSI).trans hI)
 ·exact(fm _ _ (dm hb)).trans ((fm _ _ (dm hb)).trans (b0 _ e))
theorem amL{R:Result->ae->Prop}(hh:A.handled=none) (hd:(D == f7)=false) (ho:pL s.heap D es ep) (hn:es.size<=1000) (S:ab) (hDS:D≠S) (hS:s.heap.get? S=some { cls:=.type "list",data:=.seq #[] })
  (hR:∀h' tk acc' c',(∀b o,b≠S->s.heap.get? b=some o->h'.get? b=some o)->h'.get? S=some { cls:=.type "list",dict:=none,data:=.seq acc' c',slots:=#[] } ->
   ItemsOf (fun i v=>∃e,es[i]?=some e/\v=e.key) acc' es.size->R (.ok (.ret .none)) { s with heap:=h',toks:=tk }) :
  ai (ar prog w) A.in1 (Builtin.«list.__init__» ⟨[.ref S,.ref D],[]⟩)
   (fun gD s'=>match gD with|.done f=>R (.ok f) s'|.again c'=>c'.quiet=true/\fx (ar prog w) A c' R s') (fun e s'=>R (.error e) s') s:=by
 show ai _ _ (do let old <- cq.List.listItems (.ref S);cq.List.listUpdate (.ref S) (fun _=>#[]);letGo old.toList.reverse;j9 (.ref S) (.ref D) .none) _ _ s;refine af ?_;unfold cq.List.listItems;refine af (l6 hS rfl (az ?_));show ai _ _ (j_ S (fun _=>#[]) >>= fun _=>letGo (#[]:Array aa).toList.reverse >>= fun _=>j9 (.ref S) (.ref D) .none) _ _ s;refine af (hG hS rfl ?_);have hS₂:=fg (cE (fun _=>(#[]:Array aa))) hS rfl;have oth:∀b o,b≠S->s.heap.get? b=some o->(s.heap.update S (cE (fun _=>(#[]:Array aa)))).get? b=some o :=
  fun b o hb e=>(fm _ _ (dm hb)).trans e
 refine af (oB ?_);refine agT hh hd (ho.go fun o e=>oth _ _ hDS e) hn S .none _ hDS hS₂ fun h' tk acc' c' hk hS' hacc=>?_;exact hR h' tk acc' c' (fun b o hb e=>hk b o hb (oth b o hb e)) hS' hacc
theorem Xh{Q:aa->ae->Prop}(hh:A.handled=none)(hd:(D == f7)=false)(ho:pL s.heap D es ep)(hn:es.size<=1000)
  (hQ:∀h' tk acc' c',(∀b o,s.heap.get? b=some o->h'.get? b=some o) ->
   h'.get? s.heap.objs.size=some { cls:=.type "list",dict:=none,data:=.seq acc' c',slots:=#[] }->ItemsOf (fun i v=>∃e,es[i]?=some e/\v=e.key) acc' es.size->Q (.ref s.heap.objs.size) { s with heap:=h',toks:=tk }) :
  ai (ar prog w) A (call (.type "list") [.ref D]) Q E s:=by
 have su:D < s.heap.objs.size:=by obtain⟨o,e,_⟩:=id ho;exact bg e
 refine callType_codes (Q₁:=fun obj s₁=>obj=.ref s.heap.objs.size/\s₁={ s with heap:=s.heap.push { cls:=.type "list",data:=.seq #[] } }) F.called_list (F.typeCall_list_1 _) F.entry_list_init
  (code_list_new _ ⟨rfl,rfl⟩) fun obj s₁ h₁=>?_
 obtain⟨rfl,rfl⟩:=h₁;have hS:(s.heap.push { cls:=.type "list",data:=.seq #[] }).get? s.heap.objs.size=some { cls:=.type "list",data:=.seq #[] }:=cy _ rfl;refine⟨⟨_,hS,rfl⟩,F.args_list_init_2 _ _,amL (A:=A.in1) hh hd (ho.go fun o e=>b0 _ e) hn _ (bS su) hS fun h' tk acc' c' hk hS' hacc=>?_⟩;exact⟨rfl,hQ h' tk acc' c' (fun b o e=>hk b o (bS (bg e)) (b0 _ e)) hS' hacc⟩
end
end Dk
namespace Vl
open PySem PySem.Spec PySem.Calls PySem.W L2
section
variable{X:Cx}{B:Bs}{W:Wi}{K:ah}
theorem Kf:∀ys:List (List Int×ab×aa),Vals (ys.map fun x=>V.ref x.2.1) (ys.map fun x=>aa.ref x.2.1)
 | []=>.nil
 |_::ys=>.cons rfl (Kf ys)
theorem Sx(hc:X.calm=true):iQ X (.type "list") (fun xs H Q=>∃(a:ab) (U:ab->List Int->Prop) (bI:List (List Int×V)),xs=[.ref a]/\Ac H a U bI/\(∀b ks,U b ks->UG X.K H b ks)/\bI.length < 1000 /\
  ∀l zs,H l=none->zs.length=bI.length->(∀(i:Nat) v,zs[i]?=some v->∃b,v=.ref b/\U b ((bI.map (·.1)).getD i []))->Q (.ref l) (upd H l (.lst zs))):=by
 intro pins s σ H xs us Q I r h;obtain⟨a,U,bI,rfl,hH,hU,hz,q⟩:=h;obtain⟨u,rfl,rx⟩:=r.one;cases rx;obtain⟨φ,hH,hφ⟩:=hH;obtain⟨o,es,ep,ys,ho,hx,hdat,hsys,hes,hnd,hp⟩:=hφ _ (I.hok _ _ hH).1;obtain⟨ek,hu⟩:=nQ hp;have hlen:ys.length=bI.length:=by have:=congrArg eI ek;simpa using this
 have hsz:es.size=ys.length:=by have:=congrArg eI hes;simpa using this
 have hd0:Dk.pL s.heap a es ep:=⟨o,ho,hx,hdat⟩
 refine Dk.Xh (I.ok.hd hc) hsys hd0 (by lia) fun h' tk acc c' kk hS hacc=>?_;have apm:∀i,es[i]?=(ys[i]?).map fun(x:List Int×ab×aa)=>(⟨KJ x.1,.ref x.2.1,x.2.2⟩:kv):=fun i=>by rw[<- fF,hes,cf]
 have hln:H s.heap.objs.size=none:=I.hok.fresh (bj _);have hal:acc.toList=ys.map fun x=>aa.ref x.2.1:=by
  apply qE;intro i;rw[cf,fF];cases e:acc[i]? with
  |some v =>
   obtain⟨x,hx',rfl⟩:=hacc.2 i v e;rw[apm]at hx';cases e2:ys[i]? with
   |none=>rw[e2]at hx';cases hx'
   |some y=>rw[e2]at hx';cases hx';rfl
  |none =>
   have:acc.size<=i:=by simpa using e
   rw[hacc.1,hsz]at this;rw[List.getElem?_eq_none this];rfl
 have hv:Vals (ys.map fun x=>V.ref x.2.1) acc.toList:=by rw[hal];exact Kf ys
 have kl:(ys.map fun x=>V.ref x.2.1).length=bI.length:=by simp[hlen]
 refine⟨.ref s.heap.objs.size,_,I.laid (t':=tk) kk (bj _) (show fD X.prog X.w _ h' _ (.lst (ys.map fun x=>V.ref x.2.1)) from⟨?_,acc.toList,c',hv,by simpa using hS⟩),rfl,q _ _ hln kl fun i v e=>?_⟩
 ·rw[kl,dA];lia
 ·rw[cf]at e;cases e2:ys[i]? with
  |none=>rw[e2]at e;cases e
  |some y =>
   rw[e2]at e;have hg:(bI.map (·.1)).getD i []=y.1:=by rw[<- ek,eK,cf,e2];rfl
   rw[hg];exact⟨y.2.1,(cz e).symm,hu y (ko e2)⟩
def vJ:D->Rs D:=fun d=>match d with
 | .je ks _=>if ks.length < 1000 then .ok (.lst (ks.map aj)) else .no
 |_=>.no
theorem aed{f:au->Rs D}{e:ag}{p pos:Pos}(hc:X.calm=true) (hm:X.mg "list"=none) (he:SE X B W e f) (hg:Gl X "list":=by rfl) (hst:a9 [e] X.env=[(false,aS e X.env)]:=by rfl) :
  SE X B W (.Call (.Name "list" p) [e] [] pos) (fB f vJ):=by
 refine PE.imp (yr (Sx hc) hg hm PyProof.Rows.boot_list (dg he gP hst) (by decide) (by decide) hst rfl) fun σ H Q fV=>?_;obtain⟨ρ,G,s,pp⟩:=fV;refine⟨ρ,G,s,?_⟩;unfold fB at pp;cases e1:f ρ with
 |no=>rw[e1]at pp;exact pp.elim
 |ex c n=>rw[e1]at pp;exact pp
 |ok d =>
  rw[e1]at pp;intro v H1 G1 x r;have Xi:Post X.K W σ G H (vJ d) Q:=pp;cases d with
  |je ks ds =>
   unfold vJ at Xi;dsimp only at Xi;by_cases hl:ks.length < 1000
   ·rw[if_pos hl]at Xi;obtain⟨a,U,bI,rfl,h1,h2,h3,h4⟩:=qe.mp r;subst h3;refine⟨a,U,bI,rfl,(h1.mono x.gh).at,fun b ks z=>Same.gK x.gh (h2 b ks z),by simpa using hl,fun l zs hln hz hv=>?_⟩;have y:=nJ (xs:=zs) x.gh x.tp hln;refine Xi _ _ _ (x.trans y) (aW.mpr ⟨l,zs,rfl,.of bA,(jX (by simpa using hz) fun i v hv2=>?_).mono y.gg⟩);obtain⟨b,e1,e2⟩:=hv i v hv2;exact⟨b,e1,h2 b _ e2⟩
   ·rw[if_neg hl]at Xi;exact Xi.elim
  |_=>exact Xi.elim
end
structure akj (K:ah)(x:Str)(st:be)(f:ab)(fd:b9)(c P:ab)(q:Str):Prop where
 ex:∃(oc:aa) (od:Option ab) (kV doc pm:aa) (an:Option ab) (ct:aa) (osl:Array (Option aa)),
  fd=eJ x x (bJ st) (bC st) (aD st) .none kV doc pm an (.ref c) ct/\K.lookup f=some ⟨oc,od,.func fd,osl⟩/\k8 K (.ref c) x=true
 kp:f_ K (.ref f)=true
 hd:h_ K c P=true
 mem:(P,q)∈abR K
theorem Sy:∀{l:List (ab×Obj)}{b:ab}{q:Obj},l.lookup b=some q->(b,q)∈l
 | [],_,_,h=>by cases h
 | (c,r)::l,b,q,h=>by
  by_cases e:b=c
  ·subst e;rw[lr]at h;cases h;exact df
  ·rw[i6,show(b == c)=false by simpa using e]at h;exact dt _ (Sy h)
theorem abb{K:ah}{c P:ab}(e:h_ K c P=true):∃oc vs,K.lookup c=some oc/\oc.data=.fields vs/\(vs[11]?:Option aa)=some (.ref P):=by
 unfold h_ at e;split at e
 ·rename_i vs _ hk;simp only[ky]at e;obtain⟨⟨⟨⟨⟨e1,_⟩,_⟩,_⟩,_⟩,_⟩:=e;split at e1
  ·rename_i P' h11;have:P'=P:=by simpa using e1
   subst this;exact⟨_,vs,hk,rfl,h11⟩
  ·cases e1
 ·cases e
theorem agU{K:ah}{x q:Str}{st:be}{f c P:ab}{oc:aa}{od an:Option ab}{osl:Array (Option aa)}{kV doc pm ct:aa}(l:K.lookup f=some ⟨oc,od,.func (eJ x x (bJ st) (bC st) (aD st) .none kV doc pm an (.ref c) ct),osl⟩)
  (cc:k8 K (.ref c) x=true) (k:f_ K (.ref f)=true) (h:h_ K c P=true) (hb:YD (eJ x x (bJ st) (bC st) (aD st) .none kV doc pm an (.ref c) ct)=true) (hq:x++(".<locals>.<lambda>":Str)=q) :
  akj K x st f (eJ x x (bJ st) (bC st) (aD st) .none kV doc pm an (.ref c) ct) c P q:=by
 refine⟨⟨oc,od,kV,doc,pm,an,ct,osl,rfl,l,cc⟩,k,h,?_⟩;obtain⟨o2,vs,h1,h2,h3⟩:=abb h;refine iX.mpr ⟨_,Sy l,?_⟩;dsimp only;rw[if_pos hb];show(match K.lookup c with|some oc=>_|none=>none)=_;rw[h1];dsimp only;rw[h2];dsimp only;rw[h3];dsimp only;rw[<- hq]
section
variable{P:aE}{w:ay}{K:ah}{mg:Str->Option aa}{base:Heap}
theorem agV{x q:Str}{st:be}{f c T:ab}{fd:b9}{N ps:List Str}{k:Nat}{g:au->Ou}(F:akj K x st f fd c T q)(hm:mg x=some (.ref f))(S:bQ N ps (aD st))
  (hbi:∀(kV doc pm:aa) (an:Option ab) (cdv ct:aa) (us:List aa),us.length=ps.length->bindArgs (eJ x x (bJ st) (bC st) (aD st) .none kV doc pm an cdv ct) ⟨us,[]⟩=pure (ps.zip us))
  (hb:∀(A:a8) (outer:List Env) (s:ae) (H:Hp) (E:XK) (B:Bs),lJ k (A.deeper (lz x (aD st) s.heap.objs.size f (.ref c))) ->
   wA (rM (Gy P w K) P w K mg base N x (aD st) f (.ref c) A outer s H E) (fun c n _ H'=>E (Cq c n) none H') ->
   uM (rM (Gy P w K) P w K mg base N x (aD st) f (.ref c) A outer s H E) B (fun c n _ H'=>E (Cq c n) none H') (bC st) g) :
  mO P w K mg base x (k + 1) ps.length (fun ds=>gD (g (bF N ds))):=by
 obtain⟨oc,od,kV,doc,pm,an,ct,osl,rfl,lk,hcd⟩:=F.ex;refine⟨f,_,ps,?_,hm,F.kp,.all (hbi kV doc pm an (.ref c) ct)⟩;refine Yw lk hcd S (fun vs H Q E h=>h.1) fun A outer s H vs Q E hr h=>?_;obtain⟨_,G,ds,e,r,h⟩:=h;dsimp only at h;exact⟨_,hb A outer s H E ⟨G,H,0⟩ hr (rW pC rfl),bF N ds,G,Dv e r,QK (B:=⟨G,H,0⟩) h⟩
end
theorem amM{k:Nat}{A:a8}{env:Env}(hr:lJ k A):(A.in1.deeper env).units + 8 < bo:=by have:=hr.un;show A.units + 1 + 3 + 8 < bo;lia
end Vl
namespace Vl
open PySem PySem.Spec L2 So Tb
def amN(t:Int)(ks:List Int):List Int :=
 let r:=ks.getD 0 0;let c:=ks.getD 1 0
 if t=0 then [r,c] else if t=1 then [c,-r] else if t=2 then [-r,-c] else if t=3 then [-c,r] else if t=4 then [r,-c] else if t=5 then [-c,-r] else if t=6 then [-r,c] else [c,r]
def turned(t:Int)(l:List (List Int)):List (List Int):=cu (l.map (amN t))
end Vl
namespace Vl
open PySem PySem.Spec PySem.Calls PySem.W L2 So Tb
abbrev c0(a:List Int):Int:=a.getD 0 0
abbrev c1(a:List Int):Int:=a.getD 1 0
def yN(a b:List Int):Prop:=c0 a < c0 b∨(c0 a=c0 b/\c1 a < c1 b)
theorem lR{a:List Int}(h:Pair a):a=[c0 a,c1 a]:=by obtain⟨x,y,rfl⟩:=h;rfl
theorem aee{a b:List Int}(ha:Pair a)(hb:Pair b)(h0:c0 a=c0 b)(h1:c1 a=c1 b):a=b:=by rw[lR ha,lR hb,h0,h1]
theorem uy{a:List Int}(h:yN a a):False:=by unfold yN at h;lia
theorem Xj{a b c:List Int}(h:yN a b)(k:yN b c):yN a c:=by unfold yN at *;lia
theorem SJ{a b:List Int}(ha:Pair a)(hb:Pair b):yc a b=true↔yN a b:=by
 obtain⟨x,y,rfl⟩:=ha;obtain⟨z,w,rfl⟩:=hb;unfold yN;show _↔x < z∨(x=z/\y < w)
 simp only[yc];by_cases h:x=z
 ·subst h;by_cases k:y=w
  ·subst k;simp
  ·simp[k]
 ·simp[h]
structure gM (L:KL):Prop where
 pr:∀x∈L,Pair x
 pw:L.Pairwise yN
theorem gM.nd{L:KL}(h:gM L):L.Nodup:=h.pw.imp fun {a b} z e=>by subst e;exact uy z
theorem gM.le{L:KL}(h:gM L):L.Pairwise leK:=by
 have:L.Pairwise fun a b=>Pair a/\Pair b/\yN a b:=by refine ny.imp_of_mem (fun {a b} ha hb z=>⟨h.pr a ha,h.pr b hb,z⟩) h.pw
 refine this.imp fun {a b} fV=>?_;obtain⟨pa,pb,z⟩:=fV;unfold leK;cases e:yc b a with
 |false=>rfl
 |true=>exact(uy (Xj z ((SJ pb pa).mp e))).elim
theorem gM.of{L:KL}(pr:∀x∈L,Pair x)(nd:L.Nodup)(pw:L.Pairwise leK):gM L:=by
 refine⟨pr,?_⟩;have:L.Pairwise fun a b=>a≠b/\leK a b:=(List.pairwise_and_iff.mpr ⟨nd,pw⟩)
 refine ny.imp_of_mem (fun {a b} ha hb ⟨ne,z⟩=>?_) this;have pa:=pr a ha;have pb:=pr b hb;by_cases c:yN a b
 ·exact c
 ·exfalso;have nlt:¬yN b a:=fun w=>by have:=(SJ pb pa).mpr w;unfold leK at z;rw[z]at this;cases this
  unfold yN at c nlt;exact ne (aee pa pb (by lia) (by lia))
theorem gM.sort{L:KL}(pr:∀x∈L,Pair x)(nd:L.Nodup):gM (cu L):=.of (fun x hx=>pr x (jY.mp hx)) ((eE L).nodup_iff.mpr nd) (pH L)
theorem gM.rise{L:KL}(pr:∀x∈L,Pair x):gM (rise L):=.sort (fun x hx=>pr x (vI.mp hx)) (aaT L)
theorem gM.ext{L M:KL}(hL:gM L)(hM:gM M)(h:∀x,x∈L↔x∈M):L=M:=yF ((List.perm_ext_iff_of_nodup hL.nd hM.nd).mpr h) hL.le hM.le
theorem gM.filter{L:KL}(h:gM L)(t:List Int->Bool):gM (L.filter t):=⟨fun x hx=>h.pr x (eQ.mp hx).1,h.pw.filter t⟩
theorem gM.amO{L:KL}(h:gM L)(p:List Int):gM (L.map fun x=>mi x p):=by
 refine⟨fun x hx=>by obtain⟨y,_,rfl⟩:=c8.mp hx;exact CN _ _,?_⟩;refine List.pairwise_map.mpr (h.pw.imp fun {a b} z=>?_);unfold yN at *;show c0 a - c0 p < c0 b - c0 p∨(c0 a - c0 p=c0 b - c0 p/\c1 a - c1 p < c1 b - c1 p)
 lia
def go(st c:List Int)(j:Nat):List Int:=[c0 c + j * c0 st,c1 c + j * c1 st]
theorem nT{st c:List Int}(h:Pair c):go st c 0=c:=by rw[lR h];simp[go,c0,c1]
theorem MN(st c:List Int)(j:Nat):go st (ad c st) j=go st c (j + 1):=by
 show [c0 c + c0 st + j * c0 st,c1 c + c1 st + j * c1 st]=[c0 c + ((j + 1:Nat):Int) * c0 st,c1 c + ((j + 1:Nat):Int) * c1 st]
 have e:∀a:Int,((j + 1:Nat):Int) * a=a + j * a:=fun a=>by rw[Int.natCast_succ,rX,oC,Int.add_comm]
 rw[e,e,<- mI,<- mI]
theorem ahX(st p h:List Int)(j:Nat):go st (ad p h) j=ad p (go st h j):=by
 show [c0 p + c0 h + j * c0 st,c1 p + c1 h + j * c1 st]=[c0 p + (c0 h + j * c0 st),c1 p + (c1 h + j * c1 st)]
 rw[mI,mI]
def Up(st:List Int):Prop:=yN [0,0] st
theorem aef{st c:List Int}(hs:Up st)(j:Nat):yN c (go st c (j + 1)):=by
 have hs':0 < c0 st∨(0=c0 st/\0 < c1 st):=hs;show c0 c < c0 c + ((j + 1:Nat):Int) * c0 st∨(c0 c=c0 c + ((j + 1:Nat):Int) * c0 st/\c1 c < c1 c + ((j + 1:Nat):Int) * c1 st)
 have hj:(0:Int) < ((j + 1:Nat):Int):=by lia
 generalize ((j + 1:Nat):Int)=J at hj ⊢;rcases hs' with h|⟨h1,h2⟩
 ·have:=Int.mul_pos hj h;left;lia
 ·have:=Int.mul_pos hj h2;exact .inr ⟨by rw[<- h1];simp,by lia⟩
theorem amP{st c x:List Int}(hs:Up st)(hx:Pair x)(h:yN c x)(j:Nat):yN c (go st x j):=by
 cases j with
 |zero=>rw[nT hx];exact h
 |succ j=>exact Xj h (aef hs j)
def Kg(S:KL)(st c:List Int)(n:Nat):Prop:=(∀j,j < n->go st c j∈S)/\go st c n∉S
def vK(S:KL)(st:List Int)(kvs:List (List Int×D)):Prop:=∀x,(x∈S->∃n:Nat,bV kvs x=some (.int n)/\Kg S st x n)/\(x∉S->bV kvs x=none)
theorem MP(kvs:List (List Int×D))(k x:List Int)(d:D):bV (jh kvs k d) x=if x=k then some d else bV kvs x:=by
 unfold jh;by_cases h:(bV kvs k).isSome=true
 ·rw[if_pos h];by_cases e:x=k
  ·subst e;rw[if_pos rfl]
   induction kvs with
   |nil=>cases h
   |cons p kvs ih =>
    by_cases c:p.1=x
    ·simp[bV,eT,c]
    ·have h':(bV kvs x).isSome=true:=by simpa[bV,eT,c] using h
     have:=ih h';simpa[bV,eT,c] using this
  ·rw[if_neg e];clear h
   induction kvs with
   |nil=>rfl
   |cons p kvs ih =>
    by_cases c:p.1=k
    ·have:¬(k=x):=fun z=>e z.symm;have c':¬(p.1=x):=fun z=>this (c▸z);simpa[bV,eT,c,this,c'] using ih
    ·by_cases c':p.1=x
     ·have c2:(if p.1=k then (p.1,d) else p)=p:=if_neg c;show bV ((if p.1=k then (p.1,d) else p)::kvs.map fun p=>if p.1=k then (p.1,d) else p) x=_;rw[c2];simp[bV,eT,c']
     ·simpa[bV,eT,c,c'] using ih
 ·rw[if_neg h];have hn:bV kvs k=none:=by cases z:bV kvs k <;> simp_all
  by_cases e:x=k
  ·subst e;rw[if_pos rfl];unfold bV at hn ⊢;rw[List.find?_append];cases z:kvs.find? fun p=>decide (p.1=x) with
   |some p=>rw[z]at hn;cases hn
   |none=>simp
  ·rw[if_neg e];unfold bV;rw[List.find?_append];cases z:kvs.find? fun p=>decide (p.1=x) with
   |some p=>simp
   |none=>simp[dm e,show ¬k=x from fun w=>e w.symm]
theorem aeg{S:KL}{st c:List Int}{kvs:List (List Int×D)}(hs:Up st)(hc:Pair c)(pr:∀x∈S,Pair x)(lt:∀x∈S,yN c x)(h:vK S st kvs) :
  ∃n:Nat,(bV kvs (ad c st)).getD (.int 0)=.int n/\vK (c::S) st (jh kvs c (.int (n + 1))):=by
 have hcS:c∉S:=fun z=>uy (lt c z);have key:∃n:Nat,(bV kvs (ad c st)).getD (.int 0)=.int n/\Kg (c::S) st c (n + 1):=by
  by_cases hy:ad c st∈S
  ·obtain⟨n,e,r1,r2⟩:=(h (ad c st)).1 hy;refine⟨n,by rw[e];rfl,fun j hj=>?_,?_⟩
   ·cases j with
    |zero=>rw[nT hc];exact df
    |succ j=>rw[<- MN];exact dt _ (r1 j (by lia))
   ·intro z;rcases bz.mp z with z|z
    ·have:=aef (c:=c) hs n;rw[z]at this;exact uy this
    ·rw[<- MN]at z;exact r2 z
  ·refine⟨0,by rw[(h (ad c st)).2 hy];rfl,fun j hj=>?_,?_⟩
   ·obtain rfl:j=0:=by lia
    rw[nT hc];exact df
   ·intro z;rcases bz.mp z with z|z
    ·have:=aef (c:=c) hs 0;rw[z]at this;exact uy this
    ·rw[<- MN,nT (CK _ _)]at z;exact hy z
 obtain⟨n,e,r⟩:=key;refine⟨n,e,fun x=>⟨fun hx=>?_,fun hx=>?_⟩⟩
 ·rw[MP];by_cases ex:x=c
  ·subst ex;rw[if_pos rfl];exact⟨n + 1,by simp,r⟩
  ·rw[if_neg ex];have hxS:=(bz.mp hx).resolve_left ex;obtain⟨m,e',r1,r2⟩:=(h x).1 hxS;refine⟨m,e',fun j hj=>dt _ (r1 j hj),fun z=>?_⟩;rcases bz.mp z with z|z
   ·have:=amP hs (pr x hxS) (lt x hxS) m;rw[z]at this;exact uy this
   ·exact r2 z
 ·rw[MP,if_neg (fun z:x=c=>hx (by rw[z];exact df))];exact(h x).2 fun z=>hx (dt _ z)
theorem akk{O:KL}{st:List Int}(hO:∀x∈O,Pair x)(hs:Up st){len:List Int->Nat}(hl:∀x∈O,Kg O st x (len x)):∀(k:Nat) (t:List Int),t∈O->(O.filter fun x=>decide (c0 x < c0 t∨(c0 x=c0 t/\c1 x < c1 t))).length=k->∃h∈O,mi h st∉O/\∃j,j < len h/\go st h j=t:=by
 intro k
 induction k using Nat.strongRecOn with
 |ind k ih =>
  intro t ht hk;have pos:∀x∈O,0 < len x:=fun x hx=>sN fun z=>(hl x hx).2 (by rw[z,nT (hO x hx)];exact hx);by_cases c:mi t st∈O
  ·have hlt:yN (mi t st) t:=by
    have hs':0 < c0 st∨(0=c0 st/\0 < c1 st):=hs;show c0 t - c0 st < c0 t∨(c0 t - c0 st=c0 t/\c1 t - c1 st < c1 t)
    lia
   have less:(O.filter fun x=>decide (c0 x < c0 (mi t st)∨(c0 x=c0 (mi t st)/\c1 x < c1 (mi t st)))).length < k:=by
    rw[<- hk];have sub:(O.filter fun x=>decide (c0 x < c0 (mi t st)∨(c0 x=c0 (mi t st)/\c1 x < c1 (mi t st))))=(O.filter fun x=>decide (c0 x < c0 t∨(c0 x=c0 t/\c1 x < c1 t))).filter fun x=>decide (c0 x < c0 (mi t st)∨(c0 x=c0 (mi t st)/\c1 x < c1 (mi t st))):=by rw[List.filter_filter];refine List.filter_congr fun x _=>?_;rw[Bool.eq_iff_iff];simp only[ky,decide_eq_true_eq];refine⟨fun z=>⟨z,?_⟩,fun z=>z.1⟩;have:yN x t:=Xj (show yN x (mi t st) from z) hlt;exact this
    rw[sub];refine List.length_filter_lt_length_iff_exists.mpr ⟨mi t st,eQ.mpr ⟨c,?_⟩,?_⟩
    ·exact decide_eq_true (show yN (mi t st) t from hlt)
    ·simp
   obtain⟨h,hh,hm,j,hj,e⟩:=ih _ less (mi t st) c rfl;have e2:go st h (j + 1)=t:=by
    have h0:c0 h + j * c0 st=c0 t - c0 st:=congrArg c0 e;have h1:c1 h + j * c1 st=c1 t - c1 st:=congrArg c1 e;rw[lR (hO t ht)];show [c0 h + ((j + 1:Nat):Int) * c0 st,c1 h + ((j + 1:Nat):Int) * c1 st]=_;have e:∀a:Int,((j + 1:Nat):Int) * a=j * a + a:=fun a=>by rw[Int.natCast_succ,rX,oC]
    rw[e,e];generalize (j:Int) * c0 st=A at *;generalize (j:Int) * c1 st=B at *;congr 1
    ·lia
    ·congr 1;lia
   refine⟨h,hh,hm,j + 1,?_,e2⟩;rcases mw (j + 1) (len h) with z|z
   ·exact z
   ·have:j + 1=len h:=by lia
    exact((hl h hh).2 (by rw[<- this,e2];exact ht)).elim
  ·exact⟨t,ht,c,0,pos t ht,nT (hO t ht)⟩
theorem aeh{A O:KL}{st:List Int}(hO:∀x∈O,Pair x)(hs:Up st){len:List Int->Nat}(hl:∀x∈O,Kg O st x (len x))(p:List Int) :
  (∀h∈O,mi h st∉O->∀j,j < len h->go st (ad p h) j∈A)↔∀t∈O,ad p t∈A:=by
 constructor
 ·intro H t ht;obtain⟨h,hh,hm,j,hj,e⟩:=akk hO hs hl _ t ht rfl;rw[<- e,<- ahX];exact H h hh hm j hj
 ·intro H h hh hm j hj;rw[ahX];exact H _ ((hl h hh).1 j hj)
theorem akl{A:KL}{st x:List Int}{kvs:List (List Int×D)}{n:Nat}(hn:0 < n)(hx:Pair x)(h:vK A st kvs):∃m:Nat,(bV kvs x).getD (.int 0)=.int m/\(n<=m↔∀j,j < n->go st x j∈A):=by
 by_cases hA:x∈A
 ·obtain⟨m,e,r1,r2⟩:=(h x).1 hA;refine⟨m,by rw[e];rfl,fun hle j hj=>r1 j (by lia),fun H=>?_⟩;rcases mw m n with z|z
  ·exact(r2 (H m z)).elim
  ·exact z
 ·refine⟨0,by rw[(h x).2 hA];rfl,fun hle=>by lia,fun H=>?_⟩;have:=H 0 hn;rw[nT hx]at this;exact(hA this).elim
end Vl
namespace Vl
open PySem PySem.Spec PySem.Calls PySem.W L2
theorem amQ{K:ah}{f c P:ab}{oc:aa}{od an:Option ab}{sl:Array (Option aa)}{x:Str}{st:be}{kV doc pm ct:aa}(a:ck K bX x=some (some (.ref f)))(b:K.lookup f=some ⟨oc,od,.func (eJ x x (bJ st) (bC st) (aD st) .none kV doc pm an (.ref c) ct),sl⟩)(e:h_ K c P=true):∃c,h_ K c P=true:=⟨c,e⟩
end Vl
namespace L2
open PySem PySem.Spec PyProof.Rows Vl
abbrev aei(a:ab)(o:Obj)(U:ab->List Int->Prop)(bI:List (List Int×V)):HO:=.ext fun h=>h.get? a=some o/\oG U a bI h
def Itd(a:ab)(o:Obj)(U:ab->List Int->Prop)(bI:List (List Int×V)):It :=
 ⟨fun i H=>i < bI.length/\H a=some (aei a o U bI),fun i H x H'=>H'=H/\∃b,x=.ref b/\U b ((bI.map (·.1)).getD i []),fun i H=>bI.length<=i/\H a=some (aei a o U bI)⟩
theorem Xk{X:Cx}{pins:List (ab×Obj)}{σ:St}{H:Hp}{s:ae}{a:ab}{o:Obj}{U:ab->List Int->Prop}{bI:List (List Int×V)}(I:Inv X pins σ H s)(hH:H a=some (aei a o U bI)) :
  ∃(es:Array kv) (ep:Nat) (xs:List (List Int×ab×aa)),s.heap.get? a=some o/\o.ExactDict/\o.data=.dict es ep/\(a == f7)=false/\es.toList=xs.map (fun x=>⟨KJ x.1,.ref x.2.1,x.2.2⟩)/\xs.map (·.1)=bI.map (·.1)/\∀x∈xs,U x.2.1 x.1:=by
 obtain⟨⟨ho,o',es,ep,xs,ho',hx,hd,hs,he,hn,hp⟩,_⟩:=I.hok a _ hH;rw[ho]at ho';cases ho';obtain⟨ek,hu⟩:=nQ hp;exact⟨es,ep,xs,ho,hx,hd,hs,he,ek,hu⟩
theorem aej{P:aE}{w:ay}{K:ah}{tg:ag}(a it:ab){o:Obj}{U:ab->List Int->Prop}{bI:List (List Int×V)}{es:Array kv}{ep:Nat}(hdat:o.data=.dict es ep)(hn:es.size=bI.length) :
    Turn P w K tg (Itd a o U bI) [it] it (fun i h=>i<=es.size/\h.IsKeyIter it a i es.size ep) where
  mem:=by simp
  obj:=fun i h st b hb=>by
    have e:b=it:=by simpa using hb
    subst e;obtain⟨_,o,ho,hc,hd⟩:=st;exact⟨o,ho,fun v z=>by rw[hd]at z;cases z⟩
  keep:=fun i h h' st k=>⟨st.1,st.2.at fun o e=>k it (by simp) o e⟩
  item:=by
    intro X hP hw hK hc i pins s σ H E I hf st hg;subst hP hw hK;obtain⟨hlt,hH⟩:=hg;obtain⟨es',ep',xs,ho,hx,hd,hs,he,ek,hu⟩:=Xk I hH;rw[hdat]at hd;cases hd;have hi:i < es.size:=by rw[hn];exact hlt
    obtain⟨f0,f1,f2,f3,f4,f5⟩:=hf it (by simp);refine Dk.ahP st.2 ⟨o,ho,hx,hdat⟩ hi fun h' st' sb=>?_;have I1:Inv X pins σ H { s with heap:=h',toks:=s.toks }:=I.turned (t':=s.toks) (fun b o hb e=>(sb.2 b hb).trans e) f0 f1 f3 f4 f5;have hxi:∃x,xs[i]?=some x/\es[i].key=.ref x.2.1:=by
      have h1:es.toList[i]?=some es[i]:=by rw[fF];exact kF hi
      rw[he,cf]at h1;cases e:xs[i]? with
      |none=>rw[e]at h1;cases h1
      |some x=>rw[e]at h1;exact⟨x,rfl,by rw[<- cz h1]⟩
    obtain⟨x,hx1,hk⟩:=hxi;have hg:(bI.map (·.1)).getD i []=x.1:=by rw[<- ek,eK,cf,hx1];rfl
    rw[hk];obtain⟨oi,ho',hc',hd'⟩:=id st';refine⟨.ref x.2.1,rfl,Qv (s:={ s with heap:=h' }) (n:="dict_keyiterator") ho' hc' hd' (by decide) ⟨.ref x.2.1,H,I1,rfl,⟨rfl,x.2.1,rfl,?_⟩,⟨hi,st'⟩,fun b hb=>(hf b hb).1⟩⟩;rw[hg];exact hu x (ko hx1)
  done := by
    intro X hP hw hK hc i pins s σ H E I hf st hg;subst hP hw hK;obtain⟨hge,hH⟩:=hg;obtain⟨es',ep',xs,ho,hx,hd,hs,he,ek,hu⟩:=Xk I hH;rw[hdat]at hd;cases hd;have hi:i=es.size:=by have:=st.1;lia
    subst hi;obtain⟨f0,f1,f2,f3,f4,f5⟩:=hf it (by simp);exact Dk.amh (I.ok.hd hc) st.2 ⟨o,ho,hx,hdat⟩ fun h' eb=>⟨rfl,I.turned (t':=s.toks) (fun b o hb e=>eb b o hb e) f0 f1 f3 f4 f5⟩
  self:=fun _ _ _ _ _ st h=>wpAny_pyIter_keyiter st.2 h
section
variable{X:Cx}{tg:ag}
def apo(t:TE):TI:=fun σ H R=>t σ H fun v H1=>∃a o U bI,v=.ref a/\H1 a=some (aei a o U bI)/\R (Itd a o U bI) H1
theorem akm{l:ag}{tl:TE}(hl:PE X l tl):PI X tg l (apo tl):=by
 intro pins s σ H R I h;refine jD (hl pins s σ H _ I h) fun v s1 fV=>?_;obtain⟨x,H1,I1,r1,q1⟩:=fV;obtain⟨a,o,U,bI,e,hH,q⟩:=q1;subst e;cases r1;obtain⟨es,ep,xs,ho,hx,hd,hs,he,ek,hu⟩:=Xk I1 hH;have hn:es.size=bI.length:=by have h1:=congrArg eI he;have h2:=congrArg eI ek;simp only[b8,i0]at h1 h2;lia
 refine Dk.adI hs ⟨o,ho,hx,hd⟩ ?_;refine⟨s1.heap.objs.size,[s1.heap.objs.size],_,_,H1,rfl,I1.kept (t':=s1.toks) fun b o e=>b0 _ e,aej a _ hd hn,⟨d7 _,Dk.kit_is (cy _ rfl)⟩,fun b hb=>?_,q⟩;have e:b=s1.heap.objs.size:=by simpa using hb
 subst e;exact I1.Qu (bj _) (I1.hok.fresh (bj _))
end
end L2
namespace Vl
open PySem PySem.Spec L2 So Tb
section
variable{X:Cx}{B:Bs}{W:Wi}{tg:ag}{K:ah}
def asF:D->Rs (List D)
 | .je ks _=>.ok (ks.map aj)
 |_=>.no
theorem agW{G:Hp}{b:ab}{ks:List Int}(h:UG K G b ks):Rep K G (aj ks) (.ref b):=bw.mpr ⟨b,_,rfl,h,ud ks⟩
theorem akn{e:ag}{f:au->Rs D}(hi:SE X B W e f):SI X B W tg e (fL f asF):=by
 refine PI.imp (akm hi) fun σ H R ⟨ρ,G,s,p⟩=>⟨ρ,G,s,Cr p (fun d v H' G' ds e1 e rv k=>?_) (fun d c n z=>by cases d <;> cases z)⟩
 cases d with
 |je ks es =>
  cases e1;obtain⟨a,U,bI,rfl,⟨o,h1⟩,h2,h3,_⟩:=qe.mp rv;refine⟨a,o,U,bI,rfl,e.gh _ _ h1,k _ H' G' (.refl e.gh e.tp) ?_⟩;subst h3;intro i G1 H1 gg e';have q1:H1 a=some (aei a o U bI):=e'.gh _ _ (gg _ _ h1);refine⟨fun d hd=>?_,fun hl=>⟨by simpa using hl,q1⟩⟩;rw[cf]at hd;cases eg:(bI.map (·.1))[i]? with
  |none=>rw[eg]at hd;cases hd
  |some ks =>
   rw[eg]at hd;cases hd;have hlt:i < bI.length:=by have:=(di.mp eg).1;simpa using this
   refine⟨⟨hlt,q1⟩,fun x H2 y=>?_⟩;obtain⟨e2,b,rfl,y⟩:=y;subst e2;have eg':(bI.map (·.1)).getD i []=ks:=by rw[eK,eg];rfl
   rw[eg']at y;exact⟨G1,e',agW (Same.gK gg (h2 b _ y))⟩
 |_=>cases e1
def oV:D->Rs D:=fun d=>match d with
 | .je ks _=>if ks.length < 1000/\(∀p∈ks,p≠[]) then .ok (.lst ((cu ks).map aj)) else .no
 |_=>.no
theorem SN{f:au->Rs D}{e:ag}{p pos:Pos}(hc:X.calm=true) (hm:X.mg "sorted"=none) (he:SE X B W e f) (hg:Gl X "sorted":=by rfl) (hst:a9 [e] X.env=[(false,aS e X.env)]:=by rfl) :
  SE X B W (.Call (.Name "sorted" p) [e] [] pos) (fB f oV):=by
 refine PE.imp (nu (vC hc) hg hm ox (dg he gP hst) (by decide) (by decide) hst rfl) fun σ H Q fV=>?_;obtain⟨ρ,G,s,pp⟩:=fV;refine⟨ρ,G,s,?_⟩;unfold fB at pp;cases e1:f ρ with
 |no=>rw[e1]at pp;exact pp.elim
 |ex c n=>rw[e1]at pp;exact pp
 |ok d =>
  rw[e1]at pp;intro v H1 G1 x r;have Xi:Post X.K W σ G H (oV d) Q:=pp;cases d with
  |je ks ds =>
   unfold oV at Xi;dsimp only at Xi;by_cases hl:ks.length < 1000/\(∀p∈ks,p≠[])
   ·rw[if_pos hl]at Xi;obtain⟨a,U,bI,rfl,h1,h2,h3,h4⟩:=qe.mp r;subst h3;refine⟨a,U,bI,rfl,(h1.mono x.gh).at,fun b ks z=>Same.gK x.gh (h2 b ks z),by simpa using hl.1,fun p hp=>hl.2 _ (mB hp),fun l zs hln hz hv=>?_⟩;have y:=nJ (xs:=zs) x.gh x.tp hln;refine Xi _ _ _ (x.trans y) (aW.mpr ⟨l,zs,rfl,.of bA,(jX hz fun i v hv2=>?_).mono y.gg⟩);obtain⟨b,e1,e2⟩:=hv i v hv2;exact⟨b,e1,h2 b _ e2⟩
   ·rw[if_neg hl]at Xi;exact Xi.elim
  |_=>exact Xi.elim
end
end Vl
namespace Vl
open PySem PySem.Spec PySem.Calls PySem.W L2 So
theorem Kh{α:Type}{h:Tg}{g:au->Ou}(F:α->D)(P:List α->au->Prop){L0:List α}
  (hs:∀x done ρ,x∈L0->done.length < L0.length->P done ρ->∃ρ1 ρ2,h (F x) ρ=some ρ1/\g ρ1=.nx ρ2/\P (done++[x]) ρ2) :
  ∀(L done:List α) (ρ:au),(∀x∈L,x∈L0)->done.length + L.length<=L0.length->P done ρ->∃ρ',dD h g (L.map F) ρ=.nx ρ'/\P (done++L) ρ'
 | [],done,ρ,_,_,p=>⟨ρ,rfl,by rw[gc];exact p⟩
 |x::L,done,ρ,hx,hl,p=>by rw[cv]at hl;obtain⟨ρ1,ρ2,e1,e2,p2⟩:=hs x done ρ (hx x (.head _)) (by lia) p;obtain⟨ρ',e,p'⟩:=Kh F P hs L (done++[x]) ρ2 (fun y hy=>hx y (.tail _ hy)) (by rw[dC,o3];lia) p2;refine⟨ρ',?_,by rw[gN]at p';exact p'⟩;simp only[b_,dD,e1,e2];exact e
theorem Ft{α:Type}{h:Tg}{g:au->Ou}(F:α->D)(P:List α->au->Prop){L:List α}{ρ:au}(p:P [] ρ)
  (hs:∀x done ρ,x∈L->done.length < L.length->P done ρ->∃ρ1 ρ2,h (F x) ρ=some ρ1/\g ρ1=.nx ρ2/\P (done++[x]) ρ2):∃ρ',dD h g (L.map F) ρ=.nx ρ'/\P L ρ':=by
 obtain⟨ρ',e,p'⟩:=Kh F P hs L [] ρ (fun _ z=>z) (by rw[fI,iO];exact bj _) p;exact⟨ρ',e,by rw[rS]at p';exact p'⟩
structure Km (kvs:List (List Int×D))(n:Nat)(M:List Int->Prop):Prop where
 gn:GN kvs
 le:kvs.length<=n
 iff:∀k,k∈kvs.map (·.1)↔M k
theorem Km.nil:Km [] 0 fun _=>False:=⟨.nil,bj _,fun k=>by simp⟩
theorem Km.put{kvs:List (List Int×D)}{n:Nat}{M M':List Int->Prop}(h:Km kvs n M)(x y:Int)(d:D)(hM:∀k,M' k↔k=[x,y]∨M k):Km (jh kvs [x,y] d) (n + 1) M' :=
 ⟨h.gn.put x y d,cx (ux _ _ _) (Nat.add_le_add_right h.le 1),fun k=>by rw[wR,hM,h.iff]⟩
theorem Km.mono{kvs:List (List Int×D)}{n n':Nat}{M M':List Int->Prop}(h:Km kvs n M)(hn:n<=n')(hM:∀k,M' k↔M k):Km kvs n' M':=⟨h.gn,cx h.le hn,fun k=>by rw[hM,h.iff]⟩
theorem GN.ne{kvs:List (List Int×D)}(g:GN kvs):∀p∈kvs.map (·.1),p≠[]:=fun p hp=>by obtain⟨x,y,rfl⟩:=g.pr p hp;simp
theorem Kl{kvs:List (List Int×D)}(g:GN kvs)(hl:kvs.length < 1000):oV (dU kvs)=.ok (.lst ((cu (kvs.map (·.1))).map aj)):=by unfold oV;dsimp only;rw[if_pos ⟨by rw[b8];exact hl,g.ne⟩]
theorem agX{kvs:List (List Int×D)}{ks:List Int}:Ba false (aj ks) (dU kvs)=.ok (.bl (decide (ks∈kvs.map (·.1)))):=by unfold Ba;dsimp only;rw[nq];dsimp only;rw[wV];simp only[bq,if_false];rw[qH]
theorem agY{kvs:List (List Int×D)}:asF (dU kvs)=.ok ((kvs.map (·.1)).map aj):=rfl
theorem Km.asc{kvs:List (List Int×D)}{n:Nat}{M:List Int->Prop}(h:Km kvs n M):gM (cu (kvs.map (·.1))):=.sort h.gn.pr h.gn.nd
theorem aek{bf:KL}(hl:bf.length < 1000)(hp:∀ks∈bf,Pair ks):yI [.lst (bf.map aj)]=.ok (.lst ((cu bf).map aj)):=by simp only[yI,JH];rw[if_pos ⟨fun ks hk=>by obtain⟨x,y,rfl⟩:=hp ks hk;simp,hl⟩]
theorem Xl{α:Type}(xs:List α)(f:α->Bool):Wa [.lst (xs.map fun x=>.bl (f x))]=.ok (.bl (xs.all f)):=by
 have h:∀xs:List α,Dy (xs.map fun x=>D.bl (f x))=some (xs.map f):=fun xs=>by
  induction xs with
  |nil=>rfl
  |cons x xs ih=>simp only[b_,Dy,ih];rfl
 simp only[Wa,h];have:(xs.map f).all id=xs.all f:=by rw[sC];rfl
 rw[this]
theorem amR{ρ:au}{i:Nat}{acc:KL}{x:List Int}{f:au->Rs D}(hi:ρ[i]?=some (.ow (acc.map aj)))(hf:f ρ=.ok (aj x))(hl:acc.length < 1000000):ado i f ρ=.nx (ρ.set i (.ow (acc.map aj++[x].map aj))):=by unfold ado;rw[hi];show oR (f ρ) ρ _=_;rw[hf];show(if (acc.map aj).length < 1000000 then Ou.nx _ else .no)=_;rw[if_pos (by rw[b8];exact hl)];rfl
theorem ako{fa fb:au->Rs D}{ρ:au}{r:Rs D}(h:fa ρ=.ok (.bl true))(h2:fb ρ=r):Jp fa fb ρ=r:=by unfold Jp;rw[h];exact h2
theorem akp{h:Tg}{g:au->Ou}{f:au->Rs (List D)}{ρ:au}{ds:List D}{r:Ou}(h1:f ρ=.ok ds)(h2:dD h g ds ρ=r):Fb h g f ρ=r:=by unfold Fb;rw[h1];exact h2
theorem abd{L:KL}{E:au->Rs D}{F:List Int->D}{ρ:au}{fi:au->Rs (List D)}{caps:List Nat}{cs:List Sl}(hs:eH 2 caps ρ=.no::.no::cs)(hi:fi ρ=.ok (L.map aj))(hp:∀ks∈L,Pair ks)(hE:∀x y,[x,y]∈L->E (.fz (.int x)::.fz (.int y)::cs)=.ok (F [x,y]))(hl:L.length<=1000000) :
  dG (oH 2 (cN (bh 0) (cN (bh 1) qj))) (fun _=>.ok true) E 2 caps fi ρ=.ok (.lst (L.map F)):=by
 refine Lj hi ?_ (by rw[b8];exact hl);rw[hs];exact uw (fun ρ=>∃a b,ρ=a::b::cs) aj F ⟨_,_,rfl⟩ (by
  rintro ks hk ρ ⟨a,b,rfl⟩;obtain⟨x,y,rfl⟩:=hp ks hk;exact⟨_,rfl,hE x y hk,_,_,rfl⟩)
end Vl
namespace SQ
open PySem PySem.Spec PySem.Calls PySem.W L2 Vl
def Bc(i:Nat):be:=PySem.Challenge.pw_edgemoss_k15_grown_and_eaten.main.body.getD i (.Pass ⟨0,0,0,0⟩)
abbrev iw:be:=Bc 1
abbrev jt:be:=Bc 2
abbrev pO:be:=Bc 3
abbrev jj:be:=Bc 4
abbrev jk:be:=Bc 6
abbrev cJ:be:=Bc 11
abbrev gq:be:=Bc 12
abbrev cL:be:=Bc 13
abbrev cM:be:=Bc 10
abbrev uz:be:=Bc 8
abbrev uD:be:=Bc 9
abbrev iy:be:=Bc 15
abbrev ju:be:=Bc 16
abbrev jw:be:=Bc 17
abbrev jx:be:=Bc 18
abbrev iz:be:=Bc 19
abbrev jZ:be:=Bc 20
abbrev jy:be:=Bc 21
abbrev iB:be:=Bc 22
abbrev gw:be:=Bc 23
abbrev dF:be:=Bc 24
abbrev dI:be:=Bc 25
abbrev fj:be:=Bc 26
abbrev jl:be:=Bc 27
abbrev rE:be:=Bc 28
structure Txt (K:Frag)(mg:Str->Option aa) :Prop where
 amS:mg "all"=none
 ael:mg "bool"=none
 aem:mg "divmod"=none
 ahY:mg "int"=none
 iC:mg "isinstance"=none
 Aj:mg "len"=none
 akq:mg "list"=none
 amT:mg "max"=none
 qI:mg "range"=none
 Xm:mg "reversed"=none
 amU:mg "set"=none
 pP:mg "sorted"=none
 qJ:mg "tuple"=none
section
variable{P:aE}{w:ay}{K:Frag}{mg:Str->Option aa}{base:Heap}
theorem Hg:bQ ["cell","step"] ["cell","step"] (aD iw):=⟨rfl,rfl,rfl,by decide+kernel,rfl,by decide+kernel,by decide+kernel⟩
def wW:au->Ou :=
  fM (fA (ao (bZ cT (bZ fY (aJ 0) (fC (.int 0))) (bZ fY (aJ 1) (fC (.int 0)))) (ao (bZ cT (bZ fY (aJ 0) (fC (.int 1))) (bZ fY (aJ 1) (fC (.int 1)))) aR)) dH)
def dW:List D->Rs D:=fun ds=>gD (wW (bF ["cell","step"] ds))
theorem Hh(T:Txt K mg ) {f:ab}{fd:b9}(F:vP K "cell_moved" "cell_moved" iw f fd) (hm:mg "cell_moved"=some (.ref f)) :mO P w K mg base "cell_moved" 1 2 dW :=
 gQ (k:=0) (g:=wW) F hm Hg (fun _ _ _ _ _ _ us hl=>match us,hl with|[_,_],_=>rfl) fun cdv A outer s H E B hr hx =>
  bD (cP (eN (ak (gB (cH (sv 0) aG) (cH (sv 1) aG)) (ak (gB (cH (sv 0) aG) (cH (sv 1) aG)) aK))))
theorem Nb:bQ ["cell","step"] ["cell","step"] (aD jt):=⟨rfl,rfl,rfl,by decide+kernel,rfl,by decide+kernel,by decide+kernel⟩
def Ak:au->Ou :=
  fM (fA (ao (bZ lH (bZ fY (aJ 0) (fC (.int 0))) (bZ fY (aJ 1) (fC (.int 0)))) (ao (bZ lH (bZ fY (aJ 0) (fC (.int 1))) (bZ fY (aJ 1) (fC (.int 1)))) aR)) dH)
def dX:List D->Rs D:=fun ds=>gD (Ak (bF ["cell","step"] ds))
theorem Nf(T:Txt K mg ) {f:ab}{fd:b9}(F:vP K "cell_less" "cell_less" jt f fd) (hm:mg "cell_less"=some (.ref f)) :mO P w K mg base "cell_less" 1 2 dX :=
 gQ (k:=0) (g:=Ak) F hm Nb (fun _ _ _ _ _ _ us hl=>match us,hl with|[_,_],_=>rfl) fun cdv A outer s H E B hr hx =>
  bD (cP (eN (ak (Dq (cH (sv 0) aG) (cH (sv 1) aG)) (ak (Dq (cH (sv 0) aG) (cH (sv 1) aG)) aK))))
theorem abe:bQ ["cells"] ["cells"] (aD pO):=⟨rfl,rfl,rfl,by decide+kernel,rfl,by decide+kernel,by decide+kernel⟩
def Fv:au->Ou :=
  fM (fA (ao (Er (fK (aJ 0))) aR) qg)
def nD:List D->Rs D:=fun ds=>gD (Fv (bF ["cells"] ds))
theorem abf(T:Txt K mg ) {f:ab}{fd:b9}(F:vP K "rising" "rising" pO f fd) (hm:mg "rising"=some (.ref f)) :mO P w K mg base "rising" 1 1 nD :=
 gQ (k:=0) (g:=Fv) F hm abe (fun _ _ _ _ _ _ us hl=>match us,hl with|[_],_=>rfl) fun cdv A outer s H E B hr hx =>
  bD (cP (wK T.qJ (Ww rfl T.pP (ajA rfl (gF hr) T.amU (sv 0)))))
theorem tD:bQ ["one","other","sums","step"] ["one","other"] (aD jj):=⟨rfl,rfl,rfl,by decide+kernel,rfl,by decide+kernel,by decide+kernel⟩
def wX:au->Rs D :=
  fA (ao (aJ 0) (ao (aJ 1) aR)) (bH 2 dW)
def mU:au->Ou :=
  JN 2 (dG (bh 0) (fun _=>.ok true) wX 1 [3] (fL (aJ 0) VR))
def qK:au->Ou :=
  cB (agd 2 aR)
  (cB (rY (Js (bh 3) mU (aJ 1)))
  (adp 2 (fM (fA (ao (aJ 2) aR) (bH 1 nD)))))
def jm:List D->Rs D:=fun ds=>gD (qK (bF ["one","other","sums","step"] ds))
theorem Tc(T:Txt K mg ) {f:ab}{fd:b9}(F:vP K "all_sums" "all_sums" jj f fd) (hm:mg "all_sums"=some (.ref f)) (dw:mO P w K mg base "cell_moved" 1 2 dW) (pQ:mO P w K mg base "rising" 1 1 nD):mO P w K mg base "all_sums" 2 2 jm :=
 gQ (k:=1) (g:=qK) F hm tD (fun _ _ _ _ _ _ us hl=>match us,hl with|[_,_],_=>rfl) fun cdv A outer s H E B hr hx =>
  aX (adq 2 tD.nd aK)
  (aX (jV (Lb e_ rfl (sv 1) (rg 3 tD.nd) (bD (ago 2 (wB (mQ (aD jj) ["one","other","sums","step"] (N:=["cell","step"]) (nt:=1) (caps:=[3]) (by decide+kernel)) rfl (by decide+kernel) (yC (sv 0)) fZ (fun s₀ H₀ C ex pins B1=>rg 0 (show iS (["cell","step"]:List Str) by decide)) (fun s₀ H₀ C ex pins B1=>bO dw (hr.mono (by decide)) cW (ak (sv 0) (ak (sv 1) aK))))))))
  (Wx 2 (bD (cP (bO pQ (hr.mono (by decide)) hx (ak (sv 2) aK))))))
theorem Td:bQ ["piece"] ["piece"] (aD jk):=⟨rfl,rfl,rfl,by decide+kernel,rfl,by decide+kernel,by decide+kernel⟩
def wY:au->Rs D :=
  fA (ao (DK (bZ fY (aJ 0) (fC (.int 0)))) (ao (DK (bZ fY (aJ 0) (fC (.int 1)))) aR)) dH
def qL:au->Ou :=
  fM (fA (ao (dG (bh 0) (fun _=>.ok true) wY 1 [] (fL (aJ 0) VR)) aR) (bH 1 nD))
def jo:List D->Rs D:=fun ds=>gD (qL (bF ["piece"] ds))
theorem Te(T:Txt K mg ) {f:ab}{fd:b9}(F:vP K "mirrored" "mirrored" jk f fd) (hm:mg "mirrored"=some (.ref f)) (pQ:mO P w K mg base "rising" 1 1 nD):mO P w K mg base "mirrored" 2 1 jo :=
 gQ (k:=1) (g:=qL) F hm Td (fun _ _ _ _ _ _ us hl=>match us,hl with|[_],_=>rfl) fun cdv A outer s H E B hr hx =>
  bD (cP (bO pQ (hr.mono (by decide)) hx (ak (wB (mQ (aD jk) ["piece"] (N:=["step"]) (nt:=1) (caps:=[]) (by decide+kernel)) rfl (by decide+kernel) (yC (sv 0)) fZ (fun s₀ H₀ C ex pins B1=>rg 0 (show iS (["step"]:List Str) by decide)) (fun s₀ H₀ C ex pins B1=>eN (ak (DN (cH (sv 0) aG)) (ak (DN (cH (sv 0) aG)) aK)))) aK)))
theorem iD:bQ ["piece","met","place","stride"] ["piece"] (aD cJ):=⟨rfl,rfl,rfl,by decide+kernel,rfl,by decide+kernel,by decide+kernel⟩
def gH:au->Ou :=
  cB (mj 3 (fA (ao (bZ fY (aJ 0) (aJ 2)) (ao (bZ fY (aJ 0) (bZ lH (aJ 2) (fC (.int 1)))) aR)) (bH 2 dX)))
  (wO 1 (bZ cT (Ew 1 (ao (aJ 3) (ao (fC (.int 0)) aR))) (fC (.int 1))) (aJ 3))
def iV:au->Ou :=
  cB (aaL 1)
  (cB (rY (Dt (bh 2) gH (ao (fC (.int 1)) (ao (fA (ao (aJ 0) aR) uI) aR))))
  (Sq 1 (fM (Sw [1] (fB (aJ 1) vJ) (bZ Hf (aJ 1) (aJ 0)) (fA (ao (fC (.int 0)) (ao (fC (.int 1)) aR)) dH)))))
def fW:List D->Rs D:=fun ds=>gD (iV (bF ["piece","met","place","stride"] ds))
theorem yO(T:Txt K mg ) {f c0 t0:ab}{fd:b9}(F:akj K "common_stride" cJ f fd c0 t0 "common_stride.<locals>.<lambda>") (hm:mg "common_stride"=some (.ref f)) (dY:mO P w K mg base "cell_less" 1 2 dX):mO P w K mg base "common_stride" 2 1 fW :=
 agV (k:=1) (g:=iV) F hm iD (fun _ _ _ _ _ _ us hl=>match us,hl with|[_],_=>rfl) fun A outer s H E B hr hx =>
  aX (Ey 1 iD.nd)
  (aX (jV (aco e_ rfl T.qI aG (vd T.Aj (sv 0)) (rg 2 iD.nd) (aX (jU 3 iD.nd (bO dY (hr.mono (by decide)) cW (ak (cH (sv 0) (sv 2)) (ak (cH (sv 0) (Dq (sv 2) aG)) aK))))
  (bD (Cz 1 (gF hr) (gB (Zo 1 (gF hr) (ak (sv 3) (ak aG aK))) aG) (sv 3))))))
  (Mz 1 (bD (cP (agS (caps:=[1]) (pn:="difference") (Nc:=["met"]) rfl rfl hr T.amT rfl (aed rfl T.akq (sv 1)) (eN (ak aG (ak aG aK))) (mQ (aD cJ) ["piece","met","place","stride"] (N:=["difference","met"]) (nt:=1) (caps:=[1]) (by decide+kernel)) rfl (fun s₀ H₀ f₀ cd₀ B1=>adW (amM hr) (sv 1) (sv 0)) F.mem rfl F.hd rfl rfl rfl rfl (fun _ _ _ _=>rfl))))))
theorem nF:bQ ["cells","stride","lengths","cell"] ["cells","stride"] (aD gq):=⟨rfl,rfl,rfl,by decide+kernel,rfl,by decide+kernel,by decide+kernel⟩
def iW:au->Ou :=
  wO 2 (bZ cT (Ew 2 (ao (fA (ao (aJ 3) (ao (aJ 1) aR)) (bH 2 dW)) (ao (fC (.int 0)) aR))) (fC (.int 1))) (aJ 3)
def kZ:au->Ou :=
  cB (aaL 2)
  (cB (rY (Fb (bh 3) iW (fL (aJ 0) asV)))
  (Sq 2 (fM (aJ 2))))
def eF:List D->Rs D:=fun ds=>gD (kZ (bF ["cells","stride","lengths","cell"] ds))
theorem Fw(T:Txt K mg ) {f:ab}{fd:b9}(F:vP K "run_lengths" "run_lengths" gq f fd) (hm:mg "run_lengths"=some (.ref f)) (dw:mO P w K mg base "cell_moved" 1 2 dW):mO P w K mg base "run_lengths" 2 2 eF :=
 gQ (k:=1) (g:=kZ) F hm nF (fun _ _ _ _ _ _ us hl=>match us,hl with|[_,_],_=>rfl) fun cdv A outer s H E B hr hx =>
  aX (Ey 2 nF.nd)
  (aX (jV (Zr e_ rfl (akf T.Xm (sv 0)) (rg 3 nF.nd) (bD (Cz 2 (gF hr) (gB (Zo 2 (gF hr) (ak (bO dw (hr.mono (by decide)) cW (ak (sv 3) (ak (sv 1) aK))) (ak aG aK))) aG) (sv 3)))))
  (Mz 2 (bD (cP (sv 2)))))
theorem kh:bQ ["piece","stride","lengths","heads"] ["piece","stride"] (aD cL):=⟨rfl,rfl,rfl,by decide+kernel,rfl,by decide+kernel,by decide+kernel⟩
def nU:au->Rs D :=
  aJ 0
def jM:au->Rs Bool :=
  fT (bZ (Ba true) (fA (ao (aJ 0) (ao (aJ 2) aR)) (bH 2 dX)) (aJ 1))
def nW:au->Rs D :=
  fA (ao (aJ 0) (ao (bZ Hf (aJ 1) (aJ 0)) aR)) dH
def iY:au->Ou :=
  cB (mj 2 (fA (ao (aJ 0) (ao (aJ 1) aR)) (bH 2 eF)))
  (cB (mj 3 (dG (bh 0) jM nU 1 [2,1] (fL (aJ 0) VR)))
  (fM (dG (bh 0) (fun _=>.ok true) nW 1 [2] (fL (aJ 3) asL))))
def fX:List D->Rs D:=fun ds=>gD (iY (bF ["piece","stride","lengths","heads"] ds))
theorem yP(T:Txt K mg ) {f:ab}{fd:b9}(F:vP K "heads_of_runs" "heads_of_runs" cL f fd) (hm:mg "heads_of_runs"=some (.ref f)) (gA:mO P w K mg base "run_lengths" 2 2 eF) (dY:mO P w K mg base "cell_less" 1 2 dX):mO P w K mg base "heads_of_runs" 3 2 fX :=
 gQ (k:=2) (g:=iY) F hm kh (fun _ _ _ _ _ _ us hl=>match us,hl with|[_,_],_=>rfl) fun cdv A outer s H E B hr hx =>
  aX (jU 2 kh.nd (bO gA (hr.mono (by decide)) hx (ak (sv 0) (ak (sv 1) aK))))
  (aX (JL 3 kh.nd (mQ (aD cL) ["piece","stride","lengths","heads"] (N:=["step","lengths","stride"]) (nt:=1) (caps:=[2,1]) (by decide+kernel)) rfl (by decide+kernel) (yC (sv 0)) fZ (fun s₀ H₀ C ex pins B1=>rg 0 (show iS (["step","lengths","stride"]:List Str) by decide)) (fun s₀ H₀ C ex pins B1=>agL (gF hr) (bO dY (hr.mono (by decide)) cW (ak (sv 0) (ak (sv 2) aK))) (sv 1)) (fun s₀ H₀ C ex pins B1=>sv 0))
  (bD (cP (wB (mQ (aD cL) ["piece","stride","lengths","heads"] (N:=["head","lengths"]) (nt:=1) (caps:=[2]) (by decide+kernel)) rfl (by decide+kernel) (YK (sv 3)) fZ (fun s₀ H₀ C ex pins B1=>rg 0 (show iS (["head","lengths"]:List Str) by decide)) (fun s₀ H₀ C ex pins B1=>eN (ak (sv 0) (ak (adW (gF hr) (sv 1) (sv 0)) aK)))))))
theorem cQ:bQ ["cells","piece","stride","lengths","places","head","length"] ["cells","piece"] (aD cM):=⟨rfl,rfl,rfl,by decide+kernel,rfl,by decide+kernel,by decide+kernel⟩
def jN:au->Rs D :=
  fA (ao (aJ 0) (ao (bZ fY (aJ 1) (fC (.int 0))) aR)) (bH 2 dX)
def nY:au->Rs D :=
  aJ 0
def jO:au->Rs Bool :=
  fT (bZ gGe (Ss 2 (ao (fA (ao (aJ 0) (ao (aJ 3) aR)) (bH 2 dW)) (ao (fC (.int 0)) aR))) (aJ 1))
def gJ:au->Ou :=
  mj 4 (dG (bh 0) jO nY 1 [6,3,5] (fL (aJ 4) asL))
def iZ:au->Ou :=
  cB (mj 2 (fA (ao (aJ 1) aR) (bH 1 fW)))
  (cB (mj 3 (fA (ao (aJ 0) (ao (aJ 2) aR)) (bH 2 eF)))
  (cB (mj 4 (dG (bh 0) (fun _=>.ok true) jN 1 [1] (fL (aJ 0) VR)))
  (cB (rY (Jr (oH 2 (cN (bh 5) (cN (bh 6) qj))) gJ (fA (ao (aJ 1) (ao (aJ 2) aR)) (bH 2 fX))))
  (fM (fA (ao (aJ 4) aR) qg)))))
def cZ:List D->Rs D:=fun ds=>gD (iZ (bF ["cells","piece","stride","lengths","places","head","length"] ds))
theorem yQ(T:Txt K mg ) {f:ab}{fd:b9}(F:vP K "places_within" "places_within" cM f fd) (hm:mg "places_within"=some (.ref f)) (mz:mO P w K mg base "common_stride" 2 1 fW) (gA:mO P w K mg base "run_lengths" 2 2 eF) (dY:mO P w K mg base "cell_less" 1 2 dX) (dw:mO P w K mg base "cell_moved" 1 2 dW) (mC:mO P w K mg base "heads_of_runs" 3 2 fX):mO P w K mg base "places_within" 4 2 cZ :=
 gQ (k:=3) (g:=iZ) F hm cQ (fun _ _ _ _ _ _ us hl=>match us,hl with|[_,_],_=>rfl) fun cdv A outer s H E B hr hx =>
  aX (jU 2 cQ.nd (bO mz (hr.mono (by decide)) hx (ak (sv 1) aK)))
  (aX (jU 3 cQ.nd (bO gA (hr.mono (by decide)) hx (ak (sv 0) (ak (sv 2) aK))))
  (aX (agf 4 cQ.nd (mQ (aD cM) ["cells","piece","stride","lengths","places","head","length"] (N:=["cell","piece"]) (nt:=1) (caps:=[1]) (by decide+kernel)) rfl (by decide+kernel) (yC (sv 0)) fZ (fun s₀ H₀ C ex pins B1=>rg 0 (show iS (["cell","piece"]:List Str) by decide)) (fun s₀ H₀ C ex pins B1=>bO dY (hr.mono (by decide)) cW (ak (sv 0) (ak (cH (sv 1) aG) aK))))
  (aX (jV (La e_ rfl (bO mC (hr.mono (by decide)) cW (ak (sv 1) (ak (sv 2) aK))) (vf rfl (dO (rg 5 cQ.nd) (dO (rg 6 cQ.nd) ql))) (bD (JL 4 cQ.nd (mQ (aD cM) ["cells","piece","stride","lengths","places","head","length"] (N:=["place","length","lengths","head"]) (nt:=1) (caps:=[6,3,5]) (by decide+kernel)) rfl (by decide+kernel) (YK (sv 4)) fZ (fun s₀ H₀ C ex pins B1=>rg 0 (show iS (["place","length","lengths","head"]:List Str) by decide)) (fun s₀ H₀ C ex pins B1=>ahE (agM 2 (gF hr) (ak (bO dw (hr.mono (by decide)) cW (ak (sv 0) (ak (sv 3) aK))) (ak aG aK))) (sv 1)) (fun s₀ H₀ C ex pins B1=>sv 0)))))
  (bD (cP (wK T.qJ (sv 4)))))))
theorem aen:bQ ["shape","piece"] ["shape","piece"] (aD uz):=⟨rfl,rfl,rfl,by decide+kernel,rfl,by decide+kernel,by decide+kernel⟩
def uE:au->Ou :=
  cB (yw (fT (bZ fY (aJ 0) (fC (.int 1)))) (fM (fA (ao (fA (ao (bZ fY (aJ 0) (fC (.int 0))) (ao (fA (ao (aJ 1) aR) (bH 1 jo)) aR)) (bH 2 cZ)) (ao (fC (.bl true)) aR)) dH)) Ae)
  (fM (fA (ao (fA (ao (bZ fY (aJ 0) (fC (.int 0))) (ao (aJ 1) aR)) (bH 2 jm)) (ao (fC (.bl false)) aR)) dH))
def nZ:List D->Rs D:=fun ds=>gD (uE (bF ["shape","piece"] ds))
theorem aeo(T:Txt K mg ) {f:ab}{fd:b9}(F:vP K "grown" "grown" uz f fd) (hm:mg "grown"=some (.ref f)) (dJ:mO P w K mg base "places_within" 4 2 cZ) (kj:mO P w K mg base "mirrored" 2 1 jo) (kE:mO P w K mg base "all_sums" 2 2 jm):mO P w K mg base "grown" 5 2 nZ :=
 gQ (k:=4) (g:=uE) F hm aen (fun _ _ _ _ _ _ us hl=>match us,hl with|[_,_],_=>rfl) fun cdv A outer s H E B hr hx =>
  aX (nM (lW (cH (sv 0) aG)) (bD (cP (eN (ak (bO dJ (hr.mono (by decide)) hx (ak (cH (sv 0) aG) (ak (bO kj (hr.mono (by decide)) hx (ak (sv 1) aK)) aK))) (ak mL aK))))) iI)
  (bD (cP (eN (ak (bO kE (hr.mono (by decide)) hx (ak (cH (sv 0) aG) (ak (sv 1) aK))) (ak mL aK)))))
theorem aep:bQ ["shape","piece"] ["shape","piece"] (aD uD):=⟨rfl,rfl,rfl,by decide+kernel,rfl,by decide+kernel,by decide+kernel⟩
def uF:au->Ou :=
  cB (yw (fT (bZ fY (aJ 0) (fC (.int 1)))) (fM (fA (ao (fA (ao (bZ fY (aJ 0) (fC (.int 0))) (ao (fA (ao (aJ 1) aR) (bH 1 jo)) aR)) (bH 2 jm)) (ao (fC (.bl true)) aR)) dH)) Ae)
  (fM (fA (ao (fA (ao (bZ fY (aJ 0) (fC (.int 0))) (ao (aJ 1) aR)) (bH 2 cZ)) (ao (fC (.bl false)) aR)) dH))
def oh:List D->Rs D:=fun ds=>gD (uF (bF ["shape","piece"] ds))
theorem aer(T:Txt K mg ) {f:ab}{fd:b9}(F:vP K "eaten" "eaten" uD f fd) (hm:mg "eaten"=some (.ref f)) (kE:mO P w K mg base "all_sums" 2 2 jm) (kj:mO P w K mg base "mirrored" 2 1 jo) (dJ:mO P w K mg base "places_within" 4 2 cZ):mO P w K mg base "eaten" 5 2 oh :=
 gQ (k:=4) (g:=uF) F hm aep (fun _ _ _ _ _ _ us hl=>match us,hl with|[_,_],_=>rfl) fun cdv A outer s H E B hr hx =>
  aX (nM (lW (cH (sv 0) aG)) (bD (cP (eN (ak (bO kE (hr.mono (by decide)) hx (ak (cH (sv 0) aG) (ak (bO kj (hr.mono (by decide)) hx (ak (sv 1) aK)) aK))) (ak mL aK))))) iI)
  (bD (cP (eN (ak (bO dJ (hr.mono (by decide)) hx (ak (cH (sv 0) aG) (ak (sv 1) aK))) (ak mL aK)))))
theorem oW:bQ ["cell","k","part"] ["cell","k"] (aD iy):=⟨rfl,rfl,rfl,by decide+kernel,rfl,by decide+kernel,by decide+kernel⟩
def qM:au->Ou :=
  cB (mj 2 (bZ Az (bZ jG (bZ cT (bZ cT (bZ Az (aJ 0) (fC (.int 1000000000000000009))) (bZ jG (fC (.int 7919)) (aJ 1))) (fC (.int 12345))) (fC (.int 48271))) (fC (.int 2305843009213693951))))
  (cB (mj 2 (bZ Az (bZ jG (aJ 2) (aJ 2)) (fC (.int 2305843009213693921))))
  (fM (bZ ace (bZ Az (bZ jG (bZ cT (aJ 2) (aJ 1)) (fC (.int 69621))) (fC (.int 2305843009213693951))) (fC (.int 8)))))
def iG:List D->Rs D:=fun ds=>gD (qM (bF ["cell","k","part"] ds))
theorem Hi(T:Txt K mg ) {f:ab}{fd:b9}(F:vP K "_law_mixed" "_law_mixed" iy f fd) (hm:mg "_law_mixed"=some (.ref f)) :mO P w K mg base "_law_mixed" 1 2 iG :=
 gQ (k:=0) (g:=qM) F hm oW (fun _ _ _ _ _ _ us hl=>match us,hl with|[_,_],_=>rfl) fun cdv A outer s H E B hr hx =>
  aX (jU 2 oW.nd (Dr (lZ (gB (gB (Dr (sv 0) aG) (lZ aG (sv 1))) aG) aG) aG))
  (aX (jU 2 oW.nd (Dr (lZ (sv 2) (sv 2)) aG))
  (bD (cP (aiP (Dr (lZ (gB (sv 2) (sv 1)) aG) aG) aG))))
theorem mV:bQ ["cell","great","k"] ["cell"] (aD ju):=⟨rfl,rfl,rfl,by decide+kernel,rfl,by decide+kernel,by decide+kernel⟩
def mW:au->Ou :=
  mj 1 (bZ cT (bZ jG (aJ 1) (fC (.int 1152921504606846976))) (bZ Az (fA (ao (aJ 0) (ao (aJ 2) aR)) (bH 2 iG)) (fC (.int 1152921504606846976))))
def jz:au->Ou :=
  cB (yw (fT (bZ gGe (aJ 0) (bZ QH (fC (.int 10)) (fC (.int 18))))) (JT (ao (bZ lH (aJ 0) (bZ QH (fC (.int 10)) (fC (.int 18)))) aR)) Ae)
  (cB (mj 1 (fC (.int 0)))
  (cB (rY (Ds (bh 2) mW (fC (.int 24))))
  (JT (ao (aJ 1) aR))))
def jA:List D->Rs (List D):=fun ds=>ami (jz (bF ["cell","great","k"] ds))
theorem Ng(T:Txt K mg ) {f:ab}{fd:b9}(F:vP K "_law_deal" "_law_deal" ju f fd) (hm:mg "_law_deal"=some (.ref f)) (qN:mO P w K mg base "_law_mixed" 1 2 iG):Okf P w K mg base "_law_deal" 2 1 jA :=
 ajI (k:=1) (g:=jz) F hm mV (fun _ _ _ _ _ _ us hl=>match us,hl with|[_],_=>rfl) fun cdv A outer s H E B hr hx =>
  aX (nM (ahE (sv 0) (acf aG aG)) (bD (Zu (ak (Dq (sv 0) (acf aG aG)) aK))) iI)
  (aX (jU 1 mV.nd aG)
  (aX (jV (Ld e_ rfl T.qI aG (rg 2 mV.nd) (bD (jU 1 mV.nd (gB (lZ (sv 1) aG) (Dr (bO qN (hr.mono (by decide)) cW (ak (sv 0) (ak (sv 2) aK))) aG))))))
  (bD (Zu (ak (sv 1) aK)))))
theorem wZ:bQ ["left","many","digit"] ["left","many"] (aD jw):=⟨rfl,rfl,rfl,by decide+kernel,rfl,by decide+kernel,by decide+kernel⟩
def ou:au->Ou :=
  cB (RV 0 2 (fA (ao (adR 0 (fC (.int 0))) (ao (aJ 1) aR)) gDm) (fC (.int 0)))
  (vH (xP (aJ 2)))
def aP:List D->List D->Rs (D×List D):=fun es ds=>WT (ou (iM ["left","many","digit"] es ds))
theorem Nh(T:Txt K mg ) {f:ab}{fd:b9}(F:vP K "_law_next" "_law_next" jw f fd) (hm:mg "_law_next"=some (.ref f)) :WW P w K mg base "_law_next" 1 1 aP :=
 Fg (k:=0) (g:=ou) F hm wZ (fun _ _ _ _ _ _ us hl=>match us,hl with|[_,_],_=>rfl) fun cdv A outer s H E B hr hx =>
  aX (agx 0 2 rfl wZ.nd (aaw T.aem (ajP 0 aG) (sv 1)) aG)
  (bD (sV (jE (W:=WF) (sv 2))))
theorem Ni:bQ ["left","way","lead","spread"] ["left","way","lead","spread"] (aD jx):=⟨rfl,rfl,rfl,by decide+kernel,rfl,by decide+kernel,by decide+kernel⟩
def gZ:au->Ou :=
  cB (xIf (aaR (xPT (fT (bZ Vv (aJ 1) (fC (.int 3))))) (xT (oN Vv (xM 0 1 aP (sS (ao (fC (.int 3)) aR))) (xP (fC (.int 0)))))) (vH (xA (gG (oN lH (xM 0 1 aP (sS (ao (fC (.int 2000001)) aR))) (xP (fC (.int 1000000)))) (gG (oN fY (xP (fA (ao (DK (fC (.int 1000000))) (ao (fC (.int 1000000)) aR)) vZ)) (xM 0 1 aP (sS (ao (fC (.int 2)) aR)))) yJ)) dH)) Ae)
  (cB (yw (fT (bZ Vv (aJ 1) (fC (.int 1)))) (vH (xA (gG (xP (fC (.int 0))) (gG (oN jG (oN lH (xM 0 1 aP (sS (ao (fC (.int 13)) aR))) (xP (fC (.int 6)))) (xP (aJ 3))) yJ)) dH)) Ae)
  (vH (xA (gG (oN lH (oN cT (xP (bZ fY (aJ 2) (fC (.int 0)))) (xM 0 1 aP (sS (ao (fC (.int 5)) aR)))) (xP (fC (.int 2)))) (gG (oN lH (oN cT (xP (bZ fY (aJ 2) (fC (.int 1)))) (xM 0 1 aP (sS (ao (fC (.int 5)) aR)))) (xP (fC (.int 2)))) yJ)) dH)))
def jB:List D->List D->Rs (D×List D):=fun es ds=>WT (gZ (iM ["left","way","lead","spread"] es ds))
theorem Nj(T:Txt K mg ) {f:ab}{fd:b9}(F:vP K "_law_step" "_law_step" jx f fd) (hm:mg "_law_step"=some (.ref f)) (aU:WW P w K mg base "_law_next" 1 1 aP):WW P w K mg base "_law_step" 2 3 jB :=
 Fg (k:=1) (g:=gZ) F hm Ni (fun _ _ _ _ _ _ us hl=>match us,hl with|[_,_,_,_],_=>rfl) fun cdv A outer s H E B hr hx =>
  aX (ahU (aml (agu (amk (W:=WF) (acv (gF hr) (sv 1) aG)) (adP (ajR (gF hr) (bN 0 aU (hr.mono (by decide)) (fG (W:=WF) (ak aG aK))) (jE (W:=WF) aG))))) (bD (sV (vD (cU (oU (bN 0 aU (hr.mono (by decide)) (fG (W:=WF) (ak aG aK))) (jE (W:=WF) aG)) (cU (adQ (jE (W:=WF) (uZ (ak (DN aG) (ak aG aK)))) (bN 0 aU (hr.mono (by decide)) (fG (W:=WF) (ak aG aK)))) mR))))) iI)
  (aX (nM (acv (gF hr) (sv 1) aG) (bD (sV (vD (cU (jE (W:=WF) aG) (cU (ajO (oU (bN 0 aU (hr.mono (by decide)) (fG (W:=WF) (ak aG aK))) (jE (W:=WF) aG)) (jE (W:=WF) (sv 3))) mR))))) iI)
  (bD (sV (vD (cU (oU (vG (jE (W:=WF) (cH (sv 2) aG)) (bN 0 aU (hr.mono (by decide)) (fG (W:=WF) (ak aG aK)))) (jE (W:=WF) aG)) (cU (oU (vG (jE (W:=WF) (cH (sv 2) aG)) (bN 0 aU (hr.mono (by decide)) (fG (W:=WF) (ak aG aK)))) (jE (W:=WF) aG)) mR))))))
theorem dB:bQ ["left","way","many","spread","lead","steps","k"] ["left"] (aD iz):=⟨rfl,rfl,rfl,by decide+kernel,rfl,by decide+kernel,by decide+kernel⟩
def lu:au->Ou :=
  Fi 5 (fC (.bl true)) (xM 0 3 jB (sS (ao (aJ 1) (ao (aJ 4) (ao (aJ 3) aR)))))
def mX:au->Ou :=
  cB (yK 1 (xM 0 1 aP (sS (ao (fC (.int 4)) aR))))
  (cB (yK 2 (oN cT (xP (fC (.int 1))) (xM 0 1 aP (gG (oN fY (xP (fA (ao (fC (.int 4)) (ao (fC (.int 3)) (ao (fC (.int 4)) (ao (fC (.int 12)) aR)))) vZ)) (xM 0 1 aP (sS (ao (fC (.int 4)) aR)))) yJ))))
  (cB (yK 3 (oN fY (xP (fA (ao (fC (.int 1)) (ao (fC (.int 1)) (ao (fC (.int 7)) (ao (fC (.int 100003)) aR)))) vZ)) (xM 0 1 aP (sS (ao (fC (.int 4)) aR)))))
  (cB (mj 4 (fA (ao (fC (.int 0)) (ao (fC (.int 0)) aR)) dH))
  (cB (yw (fT (bZ Vv (aJ 1) (fC (.int 2)))) (yK 4 (xA (gG (oN lH (xM 0 1 aP (sS (ao (fC (.int 1999997)) aR))) (xP (fC (.int 999998)))) (gG (oN lH (xM 0 1 aP (sS (ao (fC (.int 1999997)) aR))) (xP (fC (.int 999998)))) yJ)) dH)) Ae)
  (cB (aaL 5)
  (cB (rY (Ds (bh 6) lu (aJ 2)))
  (vH (xP (fA (ao (EY 5) aR) qg)))))))))
def jP:List D->List D->Rs (D×List D):=fun es ds=>WT (mX (iM ["left","way","many","spread","lead","steps","k"] es ds))
theorem Hj(T:Txt K mg ) {f:ab}{fd:b9}(F:vP K "_law_piece" "_law_piece" iz f fd) (hm:mg "_law_piece"=some (.ref f)) (aU:WW P w K mg base "_law_next" 1 1 aP) (tE:WW P w K mg base "_law_step" 2 3 jB):WW P w K mg base "_law_piece" 3 0 jP :=
 Fg (k:=2) (g:=mX) F hm dB (fun _ _ _ _ _ _ us hl=>match us,hl with|[_],_=>rfl) fun cdv A outer s H E B hr hx =>
  aX (sW 1 dB.nd (bN 0 aU (hr.mono (by decide)) (fG (W:=WF) (ak aG aK))))
  (aX (sW 2 dB.nd (vG (jE (W:=WF) aG) (bN 0 aU (hr.mono (by decide)) (cU (adQ (jE (W:=WF) (uZ (ak aG (ak aG (ak aG (ak aG aK)))))) (bN 0 aU (hr.mono (by decide)) (fG (W:=WF) (ak aG aK)))) mR))))
  (aX (sW 3 dB.nd (adQ (jE (W:=WF) (uZ (ak aG (ak aG (ak aG (ak aG aK)))))) (bN 0 aU (hr.mono (by decide)) (fG (W:=WF) (ak aG aK)))))
  (aX (jU 4 dB.nd (eN (ak aG (ak aG aK))))
  (aX (nM (acv (gF hr) (sv 1) aG) (bD (sW 4 dB.nd (vD (cU (oU (bN 0 aU (hr.mono (by decide)) (fG (W:=WF) (ak aG aK))) (jE (W:=WF) aG)) (cU (oU (bN 0 aU (hr.mono (by decide)) (fG (W:=WF) (ak aG aK))) (jE (W:=WF) aG)) mR))))) iI)
  (aX (Ey 5 dB.nd)
  (aX (jV (Ld e_ rfl T.qI (sv 2) (rg 6 dB.nd) (bD (Zw 5 (gF hr) mL (bN 0 tE (hr.mono (by decide)) (fG (W:=WF) (ak (sv 1) (ak (sv 4) (ak (sv 3) aK)))))))))
  (bD (sV (jE (W:=WF) (wK T.qJ (adL 5 rfl T.pP)))))))))))
theorem Xn:bQ ["piece","cell"] ["piece","cell"] (aD jZ):=⟨rfl,rfl,rfl,by decide+kernel,rfl,by decide+kernel,by decide+kernel⟩
def vL:au->Rs D :=
  fA (ao (bZ cT (bZ fY (aJ 2) (fC (.int 0))) (aJ 0)) (ao (bZ cT (bZ fY (aJ 2) (fC (.int 1))) (aJ 1)) aR)) dH
def uG:au->Ou :=
  fM (dG (oH 2 (cN (bh 0) (cN (bh 1) qj))) (fun _=>.ok true) vL 2 [1] (fL (aJ 0) VR))
def pR:List D->Rs D:=fun ds=>gD (uG (bF ["piece","cell"] ds))
theorem Xo(T:Txt K mg ) {f:ab}{fd:b9}(F:vP K "_law_on" "_law_on" jZ f fd) (hm:mg "_law_on"=some (.ref f)) :mO P w K mg base "_law_on" 1 2 pR :=
 gQ (k:=0) (g:=uG) F hm Xn (fun _ _ _ _ _ _ us hl=>match us,hl with|[_,_],_=>rfl) fun cdv A outer s H E B hr hx =>
  bD (cP (wB (mQ (aD jZ) ["piece","cell"] (N:=["row","column","cell"]) (nt:=2) (caps:=[1]) (by decide+kernel)) rfl (by decide+kernel) (yC (sv 0)) (QV (uf fZ (uf fZ QT))) (fun s₀ H₀ C ex pins B1=>vf rfl (dO (rg 0 (show iS (["row","column","cell"]:List Str) by decide)) (dO (rg 1 (show iS (["row","column","cell"]:List Str) by decide)) ql))) (fun s₀ H₀ C ex pins B1=>eN (ak (gB (cH (sv 2) aG) (sv 0)) (ak (gB (cH (sv 2) aG) (sv 1)) aK)))))
theorem xg:bQ ["left","far"] ["left"] (aD jy):=⟨rfl,rfl,rfl,by decide+kernel,rfl,by decide+kernel,by decide+kernel⟩
def lU:au->Ou :=
  cB (xIf (xT (oN gGt (xM 0 1 aP (sS (ao (fC (.int 3)) aR))) (xP (fC (.int 0))))) (vH (xP (fA (ao (fC (.int 0)) (ao (fC (.int 0)) aR)) dH))) Ae)
  (cB (mj 1 (fC (.int 999900000000)))
  (vH (xA (gG (oN lH (xM 0 1 aP (sS (ao (bZ cT (bZ jG (fC (.int 2)) (aJ 1)) (fC (.int 1))) aR))) (xP (aJ 1))) (gG (oN lH (xM 0 1 aP (sS (ao (bZ cT (bZ jG (fC (.int 2)) (aJ 1)) (fC (.int 1))) aR))) (xP (aJ 1))) yJ)) dH)))
def jC:List D->List D->Rs (D×List D):=fun es ds=>WT (lU (iM ["left","far"] es ds))
theorem Nk(T:Txt K mg ) {f:ab}{fd:b9}(F:vP K "_law_lead" "_law_lead" jy f fd) (hm:mg "_law_lead"=some (.ref f)) (aU:WW P w K mg base "_law_next" 1 1 aP):WW P w K mg base "_law_lead" 2 0 jC :=
 Fg (k:=1) (g:=lU) F hm xg (fun _ _ _ _ _ _ us hl=>match us,hl with|[_],_=>rfl) fun cdv A outer s H E B hr hx =>
  aX (ahU (ajS (bN 0 aU (hr.mono (by decide)) (fG (W:=WF) (ak aG aK))) (jE (W:=WF) aG)) (bD (sV (jE (W:=WF) (eN (ak aG (ak aG aK)))))) iI)
  (aX (jU 1 xg.nd aG)
  (bD (sV (vD (cU (oU (bN 0 aU (hr.mono (by decide)) (fG (W:=WF) (ak (gB (lZ aG (sv 1)) aG) aK))) (jE (W:=WF) (sv 1))) (cU (oU (bN 0 aU (hr.mono (by decide)) (fG (W:=WF) (ak (gB (lZ aG (sv 1)) aG) aK))) (jE (W:=WF) (sv 1))) mR))))))
theorem cR:bQ ["left","piece","lead","rest","cells","k","mark","cell","told"] ["left","piece","lead"] (aD iB):=⟨rfl,rfl,rfl,by decide+kernel,rfl,by decide+kernel,by decide+kernel⟩
def lC:au->Ou :=
  wO 4 (fC (.bl true)) (aJ 7)
def lD:au->Ou :=
  cB (yK 6 (xA (gG (oN cT (xP (bZ fY (aJ 2) (fC (.int 0)))) (xM 0 1 aP (sS (ao (fC (.int 4)) aR)))) (gG (oN cT (xP (bZ fY (aJ 2) (fC (.int 1)))) (xM 0 1 aP (sS (ao (fC (.int 4)) aR)))) yJ)) dH))
  (Jr (bh 7) lC (fA (ao (aJ 1) (ao (aJ 6) aR)) (bH 2 pR)))
def lE:au->Ou :=
  Fi 4 (fC (.bl true)) (xA (gG (oN lH (oN cT (xP (bZ fY (aJ 2) (fC (.int 0)))) (xM 0 1 aP (sS (ao (fC (.int 9)) aR)))) (xP (fC (.int 3)))) (gG (oN lH (oN cT (xP (bZ fY (aJ 2) (fC (.int 1)))) (xM 0 1 aP (sS (ao (fC (.int 9)) aR)))) (xP (fC (.int 3)))) yJ)) dH)
def lF:au->Ou :=
  yw (fT (JX QM 8 (fA aR vZ))) (JW 8 (xM 0 1 aP (sS (ao (Zt 8) aR)))) Ae
def mY:au->Ou :=
  cB (yK 3 (oN Vv (xM 0 1 aP (sS (ao (fC (.int 3)) aR))) (xP (fC (.int 0)))))
  (cB (aaL 4)
  (cB (rY (JV (bh 5) lD (xM 0 1 aP (sS (ao (bZ cT (fC (.int 3)) (bZ jG (fC (.int 2)) (fA (ao (bZ gLt (fA (ao (aJ 1) aR) uI) (fC (.int 7))) aR) Wy))) aR)))))
  (cB (rY (JV (bh 5) lE (xM 0 1 aP (sS (ao (fC (.int 6)) aR)))))
  (cB (Fj 8 4)
  (cB (rY (JV (bh 5) lF (xM 0 1 aP (sS (ao (fC (.int 3)) aR)))))
  (adp 8 (vH (xP (fA (ao (fA (ao (aJ 8) aR) qg) (ao (aJ 3) aR)) dH)))))))))
def jQ:List D->List D->Rs (D×List D):=fun es ds=>WT (mY (iM ["left","piece","lead","rest","cells","k","mark","cell","told"] es ds))
theorem Hl(T:Txt K mg ) {f:ab}{fd:b9}(F:vP K "_law_shape" "_law_shape" iB f fd) (hm:mg "_law_shape"=some (.ref f)) (aU:WW P w K mg base "_law_next" 1 1 aP) (yR:mO P w K mg base "_law_on" 1 2 pR):WW P w K mg base "_law_shape" 2 2 jQ :=
 Fg (k:=1) (g:=mY) F hm cR (fun _ _ _ _ _ _ us hl=>match us,hl with|[_,_,_],_=>rfl) fun cdv A outer s H E B hr hx =>
  aX (sW 3 cR.nd (amm (gF hr) (bN 0 aU (hr.mono (by decide)) (fG (W:=WF) (ak aG aK))) (jE (W:=WF) aG)))
  (aX (Ey 4 cR.nd)
  (aX (jV (Mv e_ rfl T.qI (bN 0 aU (hr.mono (by decide)) (fG (W:=WF) (ak (gB aG (lZ aG (ajD T.ahY (alI (vd T.Aj (sv 1)) aG)))) aK))) (rg 5 cR.nd) (aX (sW 6 cR.nd (vD (cU (vG (jE (W:=WF) (cH (sv 2) aG)) (bN 0 aU (hr.mono (by decide)) (fG (W:=WF) (ak aG aK)))) (cU (vG (jE (W:=WF) (cH (sv 2) aG)) (bN 0 aU (hr.mono (by decide)) (fG (W:=WF) (ak aG aK)))) mR))))
  (bD (La e_ rfl (bO yR (hr.mono (by decide)) cW (ak (sv 1) (ak (sv 6) aK))) (rg 7 cR.nd) (bD (Cz 4 (gF hr) mL (sv 7))))))))
  (aX (jV (Mv e_ rfl T.qI (bN 0 aU (hr.mono (by decide)) (fG (W:=WF) (ak aG aK))) (rg 5 cR.nd) (bD (Zw 4 (gF hr) mL (vD (cU (oU (vG (jE (W:=WF) (cH (sv 2) aG)) (bN 0 aU (hr.mono (by decide)) (fG (W:=WF) (ak aG aK)))) (jE (W:=WF) aG)) (cU (oU (vG (jE (W:=WF) (cH (sv 2) aG)) (bN 0 aU (hr.mono (by decide)) (fG (W:=WF) (ak aG aK)))) (jE (W:=WF) aG)) mR)))))))
  (aX (adS 8 4 rfl cR.nd T.pP)
  (aX (jV (Mv e_ rfl T.qI (bN 0 aU (hr.mono (by decide)) (fG (W:=WF) (ak aG aK))) (rg 5 cR.nd) (bD (nM (ajT 8 (gF hr) (uZ aK)) (bD (agw 8 (bN 0 aU (hr.mono (by decide)) (fG (W:=WF) (ak (agl 8 T.Aj) aK))))) iI))))
  (Wx 8 (bD (sV (jE (W:=WF) (eN (ak (wK T.qJ (sv 8)) (ak (sv 3) aK))))))))))))
theorem Fx:bQ ["found"] ["found"] (aD gw):=⟨rfl,rfl,rfl,by decide+kernel,rfl,by decide+kernel,by decide+kernel⟩
def uR:au->Ou :=
  fM (Jp (fB (aJ 0) (gIs .int)) (abW (fB (aJ 0) (gIs .bool))))
def iT:List D->Rs D:=fun ds=>gD (uR (bF ["found"] ds))
theorem Fy(T:Txt K mg ) {f:ab}{fd:b9}(F:vP K "_law_number" "_law_number" gw f fd) (hm:mg "_law_number"=some (.ref f)) :mO P w K mg base "_law_number" 1 1 iT :=
 gQ (k:=0) (g:=uR) F hm Fx (fun _ _ _ _ _ _ us hl=>match us,hl with|[_],_=>rfl) fun cdv A outer s H E B hr hx =>
  bD (cP (abY (Jv (t:=.int) T.iC T.ahY (sv 0) PyProof.Rows.Boot.«int») (abX (aiO (Jv (t:=.bool) T.iC T.ael (sv 0) PyProof.Rows.Boot.«bool»)))))
theorem oA:bQ ["found","due","k"] ["found","due"] (aD dF):=⟨rfl,rfl,rfl,by decide+kernel,rfl,by decide+kernel,by decide+kernel⟩
def jR:au->Ou :=
  cB (yw (fOr (rO (fT (fB (bZ fY (aJ 0) (aJ 2)) (gIs .tuple)))) (fOr (fT (bZ QM (fA (ao (bZ fY (aJ 0) (aJ 2)) aR) uI) (fC (.int 2)))) (fT (bZ QM (bZ fY (aJ 0) (aJ 2)) (bZ fY (aJ 1) (aJ 2)))))) (fM (fC (.bl false))) Ae)
  (yw (fOr (rO (fT (fA (ao (bZ fY (bZ fY (aJ 0) (aJ 2)) (fC (.int 0))) aR) (bH 1 iT)))) (rO (fT (fA (ao (bZ fY (bZ fY (aJ 0) (aJ 2)) (fC (.int 1))) aR) (bH 1 iT))))) (fM (fC (.bl false))) Ae)
def iH:au->Ou :=
  cB (yw (fOr (rO (fT (fB (aJ 0) (gIs .tuple)))) (fT (bZ QM (fA (ao (aJ 0) aR) uI) (fA (ao (aJ 1) aR) uI)))) (fM (fC (.bl false))) Ae)
  (cB (rY (Ds (bh 2) jR (fA (ao (aJ 1) aR) uI)))
  (fM (fC (.bl true))))
def fu:List D->Rs D:=fun ds=>gD (iH (bF ["found","due","k"] ds))
theorem xq(T:Txt K mg ) {f:ab}{fd:b9}(F:vP K "_law_cells_are" "_law_cells_are" dF f fd) (hm:mg "_law_cells_are"=some (.ref f)) (lG:mO P w K mg base "_law_number" 1 1 iT):mO P w K mg base "_law_cells_are" 2 2 fu :=
 gQ (k:=1) (g:=iH) F hm oA (fun _ _ _ _ _ _ us hl=>match us,hl with|[_,_],_=>rfl) fun cdv A outer s H E B hr hx =>
  aX (nM (afw (Jo (rP (lW (Jv (t:=.tuple) T.iC T.qJ (sv 0) PyProof.Rows.Boot.«tuple»))) (KY (YJ (gF hr) (vd T.Aj (sv 0)) (vd T.Aj (sv 1)))))) (bD (cP mL)) iI)
  (aX (jV (Ld e_ rfl T.qI (vd T.Aj (sv 1)) (rg 2 oA.nd) (aX (nM (afw (Jo (rP (lW (Jv (t:=.tuple) T.iC T.qJ (cH (sv 0) (sv 2)) PyProof.Rows.Boot.«tuple»))) (Jo (YJ (gF hr) (vd T.Aj (cH (sv 0) (sv 2))) aG) (KY (YJ (gF hr) (cH (sv 0) (sv 2)) (cH (sv 1) (sv 2))))))) (bD (cP mL)) iI)
  (bD (nM (afw (Jo (rP (lW (bO lG (hr.mono (by decide)) cW (ak (cH (cH (sv 0) (sv 2)) aG) aK)))) (KY (rP (lW (bO lG (hr.mono (by decide)) cW (ak (cH (cH (sv 0) (sv 2)) aG) aK))))))) (bD (cP mL)) iI)))))
  (bD (cP mL)))
theorem yS:bQ ["found","due"] ["found","due"] (aD dI):=⟨rfl,rfl,rfl,by decide+kernel,rfl,by decide+kernel,by decide+kernel⟩
def jc:au->Ou :=
  cB (yw (fOr (rO (fT (fB (aJ 0) (gIs .tuple)))) (fOr (fT (bZ QM (fA (ao (aJ 0) aR) uI) (fC (.int 2)))) (rO (fT (fB (bZ fY (aJ 0) (fC (.int 1))) (gIs .bool)))))) (fM (fC (.bl false))) Ae)
  (fM (Jp (fA (ao (bZ fY (aJ 0) (fC (.int 0))) (ao (bZ fY (aJ 1) (fC (.int 0))) aR)) (bH 2 fu)) (bZ Vv (bZ fY (aJ 0) (fC (.int 1))) (bZ fY (aJ 1) (fC (.int 1))))))
def cg:List D->Rs D:=fun ds=>gD (jc (bF ["found","due"] ds))
theorem yU(T:Txt K mg ) {f:ab}{fd:b9}(F:vP K "_law_shape_is" "_law_shape_is" dI f fd) (hm:mg "_law_shape_is"=some (.ref f)) (kI:mO P w K mg base "_law_cells_are" 2 2 fu):mO P w K mg base "_law_shape_is" 3 2 cg :=
 gQ (k:=2) (g:=jc) F hm yS (fun _ _ _ _ _ _ us hl=>match us,hl with|[_,_],_=>rfl) fun cdv A outer s H E B hr hx =>
  aX (nM (afw (Jo (rP (lW (Jv (t:=.tuple) T.iC T.qJ (sv 0) PyProof.Rows.Boot.«tuple»))) (Jo (YJ (gF hr) (vd T.Aj (sv 0)) aG) (KY (rP (lW (Jv (t:=.bool) T.iC T.ael (cH (sv 0) aG) PyProof.Rows.Boot.«bool»))))))) (bD (cP mL)) iI)
  (bD (cP (abY (bO kI (hr.mono (by decide)) hx (ak (cH (sv 0) aG) (ak (cH (sv 1) aG) aK))) (abX (alG (gF hr) (cH (sv 0) aG) (cH (sv 1) aG))))))
theorem dM:bQ ["cells","piece","sign","told","row","column","further","beside"] ["cells","piece","sign"] (aD fj):=⟨rfl,rfl,rfl,by decide+kernel,rfl,by decide+kernel,by decide+kernel⟩
def mD:au->Ou :=
  wO 3 (fC (.bl true)) (fA (ao (bZ cT (aJ 4) (bZ jG (aJ 2) (aJ 6))) (ao (bZ cT (aJ 5) (bZ jG (aJ 2) (aJ 7))) aR)) dH)
def mF:au->Ou :=
  Js (oH 2 (cN (bh 6) (cN (bh 7) qj))) mD (aJ 1)
def jT:au->Ou :=
  cB (aaL 3)
  (cB (rY (Js (oH 2 (cN (bh 4) (cN (bh 5) qj))) mF (aJ 0)))
  (Sq 3 (fM (aJ 3))))
def bT:List D->Rs D:=fun ds=>gD (jT (bF ["cells","piece","sign","told","row","column","further","beside"] ds))
theorem Bd(T:Txt K mg ) {f:ab}{fd:b9}(F:vP K "_law_reached" "_law_reached" fj f fd) (hm:mg "_law_reached"=some (.ref f)) :mO P w K mg base "_law_reached" 1 3 bT :=
 gQ (k:=0) (g:=jT) F hm dM (fun _ _ _ _ _ _ us hl=>match us,hl with|[_,_,_],_=>rfl) fun cdv A outer s H E B hr hx =>
  aX (Ey 3 dM.nd)
  (aX (jV (Lb e_ rfl (sv 0) (vf rfl (dO (rg 4 dM.nd) (dO (rg 5 dM.nd) ql))) (bD (Lb e_ rfl (sv 1) (vf rfl (dO (rg 6 dM.nd) (dO (rg 7 dM.nd) ql))) (bD (Cz 3 (gF hr) mL (eN (ak (gB (sv 4) (lZ (sv 2) (sv 6))) (ak (gB (sv 5) (lZ (sv 2) (sv 7))) aK)))))))))
  (Mz 3 (bD (cP (sv 3)))))
theorem lV:bQ ["cells","piece","sign","held","told","row","column"] ["cells","piece","sign"] (aD jl):=⟨rfl,rfl,rfl,by decide+kernel,rfl,by decide+kernel,by decide+kernel⟩
def oE:au->Rs D :=
  bZ (Ba false) (fA (ao (bZ cT (aJ 3) (bZ jG (aJ 5) (aJ 0))) (ao (bZ cT (aJ 4) (bZ jG (aJ 5) (aJ 1))) aR)) dH) (aJ 2)
def tH:au->Ou :=
  yw (fT (fA (ao (dG (oH 2 (cN (bh 0) (cN (bh 1) qj))) (fun _=>.ok true) oE 2 [3,5,6,2] (fL (aJ 1) VR)) aR) Wa)) (ado 4 (fA (ao (aJ 5) (ao (aJ 6) aR)) dH)) Ae
def qO:au->Ou :=
  cB (mj 3 (fA (ao (aJ 0) (ao (fA (ao (fA (ao (fC (.int 0)) (ao (fC (.int 0)) aR)) dH) aR) dH) (ao (fC (.int 1)) aR))) (bH 3 bT)))
  (cB (agd 4 aR)
  (cB (rY (Fb (oH 2 (cN (bh 5) (cN (bh 6) qj))) tH (fL (fA (ao (aJ 0) (ao (aJ 1) (ao (bZ lH (fC (.int 0)) (aJ 2)) aR))) (bH 3 bT)) asF)))
  (adp 4 (fM (fA (ao (aJ 4) aR) yI)))))
def fU:List D->Rs D:=fun ds=>gD (qO (bF ["cells","piece","sign","held","told","row","column"] ds))
theorem Tf(T:Txt K mg ) {f:ab}{fd:b9}(F:vP K "_law_had" "_law_had" jl f fd) (hm:mg "_law_had"=some (.ref f)) (cV:mO P w K mg base "_law_reached" 1 3 bT):mO P w K mg base "_law_had" 2 3 fU :=
 gQ (k:=1) (g:=qO) F hm lV (fun _ _ _ _ _ _ us hl=>match us,hl with|[_,_,_],_=>rfl) fun cdv A outer s H E B hr hx =>
  aX (jU 3 lV.nd (bO cV (hr.mono (by decide)) hx (ak (sv 0) (ak (eN (ak (eN (ak aG (ak aG aK))) aK)) (ak aG aK)))))
  (aX (adq 4 lV.nd aK)
  (aX (jV (Zr e_ rfl (akn (bO cV (hr.mono (by decide)) cW (ak (sv 0) (ak (sv 1) (ak (Dq aG (sv 2)) aK))))) (vf rfl (dO (rg 5 lV.nd) (dO (rg 6 lV.nd) ql))) (bD (nM (lW (ajj rfl T.amS (wB (mQ (aD jl) ["cells","piece","sign","held","told","row","column"] (N:=["further","beside","held","row","column","sign"]) (nt:=2) (caps:=[3,5,6,2]) (by decide+kernel)) rfl (by decide+kernel) (yC (sv 1)) (QV (uf fZ (uf fZ QT))) (fun s₀ H₀ C ex pins B1=>vf rfl (dO (rg 0 (show iS (["further","beside","held","row","column","sign"]:List Str) by decide)) (dO (rg 1 (show iS (["further","beside","held","row","column","sign"]:List Str) by decide)) ql))) (fun s₀ H₀ C ex pins B1=>akd (gF hr) (eN (ak (gB (sv 3) (lZ (sv 5) (sv 0))) (ak (gB (sv 4) (lZ (sv 5) (sv 1))) aK))) (sv 2))))) (bD (ajB 4 (eN (ak (sv 5) (ak (sv 6) aK))))) iI))))
  (Wx 4 (bD (cP (adA T.pP (sv 4)))))))
theorem qP:bQ ["script","cell","left","piece","shape","cells","rest","due"] ["script"] (aD rE):=⟨rfl,rfl,rfl,by decide+kernel,rfl,by decide+kernel,by decide+kernel⟩
def CQ:au->Ou :=
  cB (RT 2 1 jA (ao (aJ 1) aR))
  (cB (yK 3 (xM 2 0 jP (sS aR)))
  (cB (yK 4 (xM 2 2 jQ (gG (xP (aJ 3)) (gG (xM 2 0 jC (sS aR)) yJ))))
  (cB (acz (aJ 4) (oH 2 (cN (bh 5) (cN (bh 6) qj))))
  (cB (mj 7 (fA (ao (fB (fA (ao (aJ 5) (ao (aJ 3) (ao (fC (.int 1)) aR))) (bH 3 bT)) oV) (ao (fA (ao (aJ 5) (ao (aJ 3) (ao (fC (.int 1)) aR))) (bH 3 fU)) aR)) vZ))
  (cB (yw (fT (aJ 6)) (mj 7 (fA (ao (fA (ao (aJ 5) (ao (aJ 3) (ao (DK (fC (.int 1))) aR))) (bH 3 fU)) (ao (fB (fA (ao (aJ 5) (ao (aJ 3) (ao (DK (fC (.int 1))) aR))) (bH 3 bT)) oV) aR)) vZ)) Ae)
  (cB (yw (rO (fT (fA (ao (fA (ao (aJ 4) (ao (aJ 3) aR)) (bH 2 nZ)) (ao (fA (ao (bZ fY (aJ 7) (fC (.int 0))) (ao (aJ 6) aR)) dH) aR)) (bH 2 cg)))) (fM (fC (.bl false))) Ae)
  (yw (rO (fT (fA (ao (fA (ao (aJ 4) (ao (aJ 3) aR)) (bH 2 oh)) (ao (fA (ao (bZ fY (aJ 7) (fC (.int 1))) (ao (aJ 6) aR)) dH) aR)) (bH 2 cg)))) (fM (fC (.bl false))) Ae)))))))
def ZL:au->Ou :=
  cB (rY (Jr (bh 1) CQ (bZ cT (fA (ao (fC (.int 0)) aR) vZ) (aJ 0))))
  (fM (fC (.bl true)))
def ZM:List D->Rs D:=fun ds=>gD (ZL (bF ["script","cell","left","piece","shape","cells","rest","due"] ds))
theorem amV(T:Txt K mg ) {f:ab}(tL:Okf P w K mg base "_law_deal" 2 1 jA) (qQ:WW P w K mg base "_law_piece" 3 0 jP) (qR:WW P w K mg base "_law_shape" 2 2 jQ) (tM:WW P w K mg base "_law_lead" 2 0 jC) (qT:mO P w K mg base "_law_had" 2 3 fU) (cV:mO P w K mg base "_law_reached" 1 3 bT) (jd:mO P w K mg base "_law_shape_is" 3 2 cg) (Nm:mO P w K mg base "grown" 5 2 nZ) (Np:mO P w K mg base "eaten" 5 2 oh) {cdv:aa}{A:a8}{outer:List Env}{s:ae}{H:Hp}{E:XK}{B:Bs}(hr:lJ 5 (A.deeper (lz "law" (aD rE) s.heap.objs.size f cdv)))
  (hx:wA (rM (Gy P w K) P w K mg base ["script","cell","left","piece","shape","cells","rest","due"] "law" (aD rE) f cdv A outer s H E) (fun c n _ H'=>E (Cq c n) none H')) :
  uM (rM (Gy P w K) P w K mg base ["script","cell","left","piece","shape","cells","rest","due"] "law" (aD rE) f cdv A outer s H E) B (fun c n _ H'=>E (Cq c n) none H') (bC rE) ZL :=
  aX (jV (La e_ rfl (gB (uZ (ak aG aK)) (sv 0)) (rg 1 qP.nd) (aX (agq 2 tL (hr.mono (by decide)) qP.nd (ak (sv 1) aK))
  (aX (sW 3 qP.nd (bN 2 qQ (hr.mono (by decide)) (fG (W:=WF) aK)))
  (aX (sW 4 qP.nd (bN 2 qR (hr.mono (by decide)) (cU (jE (W:=WF) (sv 3)) (cU (bN 2 tM (hr.mono (by decide)) (fG (W:=WF) aK)) mR))))
  (aX (aji (sv 4) (vf rfl (dO (rg 5 qP.nd) (dO (rg 6 qP.nd) ql))))
  (aX (jU 7 qP.nd (uZ (ak (SN rfl T.pP (bO cV (hr.mono (by decide)) cW (ak (sv 5) (ak (sv 3) (ak aG aK))))) (ak (bO qT (hr.mono (by decide)) cW (ak (sv 5) (ak (sv 3) (ak aG aK)))) aK))))
  (aX (nM (lW (sv 6)) (bD (jU 7 qP.nd (uZ (ak (bO qT (hr.mono (by decide)) cW (ak (sv 5) (ak (sv 3) (ak (DN aG) aK)))) (ak (SN rfl T.pP (bO cV (hr.mono (by decide)) cW (ak (sv 5) (ak (sv 3) (ak (DN aG) aK))))) aK))))) iI)
  (aX (nM (rP (lW (bO jd (hr.mono (by decide)) cW (ak (bO Nm (hr.mono (by decide)) cW (ak (sv 4) (ak (sv 3) aK))) (ak (eN (ak (cH (sv 7) aG) (ak (sv 6) aK))) aK))))) (bD (cP mL)) iI)
  (bD (nM (rP (lW (bO jd (hr.mono (by decide)) cW (ak (bO Np (hr.mono (by decide)) cW (ak (sv 4) (ak (sv 3) aK))) (ak (eN (ak (cH (sv 7) aG) (ak (sv 6) aK))) aK))))) (bD (cP mL)) iI)))))))))))
  (bD (cP mL))
end
section
variable{l:k9}{w:ay}{K:Frag}{h:Heap}{mg:Str->Option aa}{fa:ab}
 {qU:ab}{Ho Hq:Option ab}{Hr:Array (Option aa)}{Ht Hu Hv Hw uT Hx:aa}
 {tO:ab}{Nq Nr:Option ab}{Nt:Array (Option aa)}{Nu Nv Nx Ny xr Nz:aa}
 {Fz:ab}{abg abh:Option ab}{abj:Array (Option aa)}{abk abl abm abn Ko abo:aa}
 {vM:ab}{Ti Tj:Option ab}{Tn:Array (Option aa)}{Tp Tq Tt Tv Al Tw:aa}
 {vN:ab}{Tz TF:Option ab}{TJ:Array (Option aa)}{TQ TV TX TY Am Ua:aa}
 {mG kJ pU:ab}{yV yW:Option ab}{yX:Array (Option aa)}{yZ za zc zf zj:aa}
 {oY:ab}{FJ FN:Option ab}{FP:Array (Option aa)}{FQ FT FW FZ tQ Ga:aa}
 {mH:ab}{zm zp:Option ab}{zq:Array (Option aa)}{zu zx zy zA pW zB:aa}
 {mJ:ab}{zE zF:Option ab}{zG:Array (Option aa)}{zH zJ zK zL pX zM:aa}
 {NK:ab}{aes aeu:Option ab}{aev:Array (Option aa)}{aew aex aey aez Ub aeA:aa}
 {NP:ab}{aeB aeC:Option ab}{aeD:Array (Option aa)}{aeE aeF aeG aeH Uc aeI:aa}
 {qW:ab}{Hy Hz:Option ab}{HB:Array (Option aa)}{HD HF HJ HN uU HS:aa}
 {tR:ab}{NQ NT:Option ab}{NZ:Array (Option aa)}{Oa Ob Oc Od xu Oe:aa}
 {tU:ab}{Og Oh:Option ab}{Oi:Array (Option aa)}{Oj Ol Om Oo xG Oq:aa}
 {tV:ab}{Ot Ov:Option ab}{Ow:Array (Option aa)}{Ox Oz OD OJ xH Pa:aa}
 {qX:ab}{HW HX:Option ab}{HY:Array (Option aa)}{Ia Ib Ie Ig uV Ih:aa}
 {zN:ab}{Xp Xq:Option ab}{Xr:Array (Option aa)}{Xu Xv Xw Xx Gb Xy:aa}
 {tW:ab}{Pb Pg:Option ab}{Ph:Array (Option aa)}{Pj Pk Pn Pq xJ Pr:aa}
 {qY:ab}{Ii Ij:Option ab}{Ik:Array (Option aa)}{Il Im Io Ip uW Ir:aa}
 {oZ:ab}{Gd Ge:Option ab}{Gf:Array (Option aa)}{Gg Gh Gi Gj tY Gk:aa}
 {kO:ab}{xK xO:Option ab}{xQ:Array (Option aa)}{xR xU xV xW oF xX:aa}
 {mK:ab}{zO zP:Option ab}{zQ:Array (Option aa)}{zR zT zU zV pY zW:aa}
 {nG:ab}{Bf Bg:Option ab}{Bh:Array (Option aa)}{Bj Bk Bl Bm rF Bo:aa}
 {vO:ab}{Ud Ue:Option ab}{Ug:Array (Option aa)}{Uh Ui Uj Uk Ao Ul:aa}
 {aeJ:ab}{akr aeK:Option ab}{aks:Array (Option aa)}{akt aeL aeM aeN Xz aeO:aa}
theorem all_mk(X:K.In h) (G:h.Ns bX mg) (hfa:mg "law"=some (.ref fa))
  (Pu:ck K bX "cell_moved"=some (some (.ref qU)))
  (Px:K.lookup qU=some ⟨Ht,Ho,.func (c9 "cell_moved" "cell_moved" (bJ iw) (bC iw) (aD iw) .none Hu Hv Hw Hq uT Hx),Hr⟩)
  (Py:c_ K uT "cell_moved"=true)
  (Pz:dc K (.ref qU)=true)
  (Um:ck K bX "cell_less"=some (some (.ref tO)))
  (Uo:K.lookup tO=some ⟨Nu,Nq,.func (c9 "cell_less" "cell_less" (bJ jt) (bC jt) (aD jt) .none Nv Nx Ny Nr xr Nz),Nt⟩)
  (Uq:c_ K xr "cell_less"=true)
  (Ur:dc K (.ref tO)=true)
  (aeP:ck K bX "rising"=some (some (.ref Fz)))
  (aeQ:K.lookup Fz=some ⟨abk,abg,.func (c9 "rising" "rising" (bJ pO) (bC pO) (aD pO) .none abl abm abn abh Ko abo),abj⟩)
  (aeR:c_ K Ko "rising"=true)
  (aeS:dc K (.ref Fz)=true)
  (XC:ck K bX "all_sums"=some (some (.ref vM)))
  (XD:K.lookup vM=some ⟨Tp,Ti,.func (c9 "all_sums" "all_sums" (bJ jj) (bC jj) (aD jj) .none Tq Tt Tv Tj Al Tw),Tn⟩)
  (XF:c_ K Al "all_sums"=true)
  (XH:dc K (.ref vM)=true)
  (XJ:ck K bX "mirrored"=some (some (.ref vN)))
  (XM:K.lookup vN=some ⟨TQ,Tz,.func (c9 "mirrored" "mirrored" (bJ jk) (bC jk) (aD jk) .none TV TX TY TF Am Ua),TJ⟩)
  (XQ:c_ K Am "mirrored"=true)
  (XR:dc K (.ref vN)=true)
  (Bp:ck K bX "common_stride"=some (some (.ref mG)))
  (Bq:K.lookup mG=some ⟨yZ,yV,.func (c9 "common_stride" "common_stride" (bJ cJ) (bC cJ) (aD cJ) .none za zc zf yW (.ref kJ) zj),yX⟩)
  (Br:c_ K (.ref kJ) "common_stride"=true)
  (Bt:dc K (.ref mG)=true)
  (Bu:h_ K kJ pU=true)
  (Iu:ck K bX "run_lengths"=some (some (.ref oY)))
  (Iv:K.lookup oY=some ⟨FQ,FJ,.func (c9 "run_lengths" "run_lengths" (bJ gq) (bC gq) (aD gq) .none FT FW FZ FN tQ Ga),FP⟩)
  (Iw:c_ K tQ "run_lengths"=true)
  (Iz:dc K (.ref oY)=true)
  (Bv:ck K bX "heads_of_runs"=some (some (.ref mH)))
  (Bw:K.lookup mH=some ⟨zu,zm,.func (c9 "heads_of_runs" "heads_of_runs" (bJ cL) (bC cL) (aD cL) .none zx zy zA zp pW zB),zq⟩)
  (Bx:c_ K pW "heads_of_runs"=true)
  (BJ:dc K (.ref mH)=true)
  (BK:ck K bX "places_within"=some (some (.ref mJ)))
  (BL:K.lookup mJ=some ⟨zH,zE,.func (c9 "places_within" "places_within" (bJ cM) (bC cM) (aD cM) .none zJ zK zL zF pX zM),zG⟩)
  (BP:c_ K pX "places_within"=true)
  (BR:dc K (.ref mJ)=true)
  (agZ:ck K bX "grown"=some (some (.ref NK)))
  (aha:K.lookup NK=some ⟨aew,aes,.func (c9 "grown" "grown" (bJ uz) (bC uz) (aD uz) .none aex aey aez aeu Ub aeA),aev⟩)
  (ahb:c_ K Ub "grown"=true)
  (ahc:dc K (.ref NK)=true)
  (ahd:ck K bX "eaten"=some (some (.ref NP)))
  (ahe:K.lookup NP=some ⟨aeE,aeB,.func (c9 "eaten" "eaten" (bJ uD) (bC uD) (aD uD) .none aeF aeG aeH aeC Uc aeI),aeD⟩)
  (ahf:c_ K Uc "eaten"=true)
  (ahg:dc K (.ref NP)=true)
  (PB:ck K bX "_law_mixed"=some (some (.ref qW)))
  (PJ:K.lookup qW=some ⟨HD,Hy,.func (c9 "_law_mixed" "_law_mixed" (bJ iy) (bC iy) (aD iy) .none HF HJ HN Hz uU HS),HB⟩)
  (PK:c_ K uU "_law_mixed"=true)
  (PL:dc K (.ref qW)=true)
  (Us:ck K bX "_law_deal"=some (some (.ref tR)))
  (Ut:K.lookup tR=some ⟨Oa,NQ,.func (c9 "_law_deal" "_law_deal" (bJ ju) (bC ju) (aD ju) .none Ob Oc Od NT xu Oe),NZ⟩)
  (Uu:c_ K xu "_law_deal"=true)
  (Uv:dc K (.ref tR)=true)
  (Uw:ck K bX "_law_next"=some (some (.ref tU)))
  (Ux:K.lookup tU=some ⟨Oj,Og,.func (c9 "_law_next" "_law_next" (bJ jw) (bC jw) (aD jw) .none Ol Om Oo Oh xG Oq),Oi⟩)
  (Uy:c_ K xG "_law_next"=true)
  (Uz:dc K (.ref tU)=true)
  (UJ:ck K bX "_law_step"=some (some (.ref tV)))
  (UL:K.lookup tV=some ⟨Ox,Ot,.func (c9 "_law_step" "_law_step" (bJ jx) (bC jx) (aD jx) .none Oz OD OJ Ov xH Pa),Ow⟩)
  (UW:c_ K xH "_law_step"=true)
  (Va:dc K (.ref tV)=true)
  (PN:ck K bX "_law_piece"=some (some (.ref qX)))
  (PX:K.lookup qX=some ⟨Ia,HW,.func (c9 "_law_piece" "_law_piece" (bJ iz) (bC iz) (aD iz) .none Ib Ie Ig HX uV Ih),HY⟩)
  (Qa:c_ K uV "_law_piece"=true)
  (Qc:dc K (.ref qX)=true)
  (abp:ck K bX "_law_on"=some (some (.ref zN)))
  (abq:K.lookup zN=some ⟨Xu,Xp,.func (c9 "_law_on" "_law_on" (bJ jZ) (bC jZ) (aD jZ) .none Xv Xw Xx Xq Gb Xy),Xr⟩)
  (abr:c_ K Gb "_law_on"=true)
  (abt:dc K (.ref zN)=true)
  (Vb:ck K bX "_law_lead"=some (some (.ref tW)))
  (Vc:K.lookup tW=some ⟨Pj,Pb,.func (c9 "_law_lead" "_law_lead" (bJ jy) (bC jy) (aD jy) .none Pk Pn Pq Pg xJ Pr),Ph⟩)
  (Vd:c_ K xJ "_law_lead"=true)
  (Ve:dc K (.ref tW)=true)
  (Qd:ck K bX "_law_shape"=some (some (.ref qY)))
  (Qe:K.lookup qY=some ⟨Il,Ii,.func (c9 "_law_shape" "_law_shape" (bJ iB) (bC iB) (aD iB) .none Im Io Ip Ij uW Ir),Ik⟩)
  (Qf:c_ K uW "_law_shape"=true)
  (Qg:dc K (.ref qY)=true)
  (IK:ck K bX "_law_number"=some (some (.ref oZ)))
  (IV:K.lookup oZ=some ⟨Gg,Gd,.func (c9 "_law_number" "_law_number" (bJ gw) (bC gw) (aD gw) .none Gh Gi Gj Ge tY Gk),Gf⟩)
  (IW:c_ K tY "_law_number"=true)
  (Ja:dc K (.ref oZ)=true)
  (zX:ck K bX "_law_cells_are"=some (some (.ref kO)))
  (zY:K.lookup kO=some ⟨xR,xK,.func (c9 "_law_cells_are" "_law_cells_are" (bJ dF) (bC dF) (aD dF) .none xU xV xW xO oF xX),xQ⟩)
  (zZ:c_ K oF "_law_cells_are"=true)
  (Aa:dc K (.ref kO)=true)
  (BW:ck K bX "_law_shape_is"=some (some (.ref mK)))
  (BX:K.lookup mK=some ⟨zR,zO,.func (c9 "_law_shape_is" "_law_shape_is" (bJ dI) (bC dI) (aD dI) .none zT zU zV zP pY zW),zQ⟩)
  (BZ:c_ K pY "_law_shape_is"=true)
  (Ca:dc K (.ref mK)=true)
  (Gm:ck K bX "_law_reached"=some (some (.ref nG)))
  (Gn:K.lookup nG=some ⟨Bj,Bf,.func (c9 "_law_reached" "_law_reached" (bJ fj) (bC fj) (aD fj) .none Bk Bl Bm Bg rF Bo),Bh⟩)
  (Gp:c_ K rF "_law_reached"=true)
  (Gq:dc K (.ref nG)=true)
  (XS:ck K bX "_law_had"=some (some (.ref vO)))
  (Yb:K.lookup vO=some ⟨Uh,Ud,.func (c9 "_law_had" "_law_had" (bJ jl) (bC jl) (aD jl) .none Ui Uj Uk Ue Ao Ul),Ug⟩)
  (Yc:c_ K Ao "_law_had"=true)
  (Yd:dc K (.ref vO)=true)
  (amW:ck K bX "law"=some (some (.ref aeJ)))
  (amX:K.lookup aeJ=some ⟨akt,akr,.func (c9 "law" "law" (bJ rE) (bC rE) (aD rE) .none aeL aeM aeN aeK Xz aeO),aks⟩)
  (amY:c_ K Xz "law"=true)
  (amZ:dc K (.ref aeJ)=true)
  (ana:ck K bX "all"=some none)
  (aku:ck K bX "bool"=some none)
  (aeT:ck K bX "divmod"=some none)
  (anb:ck K bX "int"=some none)
  (Qh:ck K bX "isinstance"=some none)
  (anc:ck K bX "len"=some none)
  (akv:ck K bX "list"=some none)
  (ane:ck K bX "max"=some none)
  (ahh:ck K bX "range"=some none)
  (Ye:ck K bX "reversed"=some none)
  (anf:ck K bX "set"=some none)
  (aeU:ck K bX "sorted"=some none)
  (ahi:ck K bX "tuple"=some none) :
  ∃fd:b9,(∀(s:ae) (v:aa),k0 s fd ⟨[v],[]⟩ [("script",v)])/\∀base:Heap,K.In base->base.Ns bX mg->GF l.prog w K mg base (Gy l.prog w K) 6 fa fd ["script"] (spV K 1 ZM):=by
 have e:=hfa.symm.trans (de X G amW);cases e;have T:Txt K mg :=⟨f6 X G ana,
  f6 X G aku,
  f6 X G aeT,
  f6 X G anb,
  f6 X G Qh,
  f6 X G anc,
  f6 X G akv,
  f6 X G ane,
  f6 X G ahh,
  f6 X G Ye,
  f6 X G anf,
  f6 X G aeU,
  f6 X G ahi⟩
 have Qi:=dh (st:=iw) Px Py Pz;have Vf:=dh (st:=jt) Uo Uq Ur;have aeV:=dh (st:=pO) aeQ aeR aeS;have Yg:=dh (st:=jj) XD XF XH;have Yh:=dh (st:=jk) XM XQ XR;have Cd:=agU (st:=cJ) (q:="common_stride.<locals>.<lambda>") Bq Br Bt Bu rfl rfl;have Jb:=dh (st:=gq) Iv Iw Iz;have Ce:=dh (st:=cL) Bw Bx BJ;have Cg:=dh (st:=cM) BL BP BR;have ahj:=dh (st:=uz) aha ahb ahc;have ahk:=dh (st:=uD) ahe ahf ahg;have Qj:=dh (st:=iy) PJ PK PL;have Vg:=dh (st:=ju) Ut Uu Uv;have Vh:=dh (st:=jw) Ux Uy Uz;have Vi:=dh (st:=jx) UL UW Va;have Qk:=dh (st:=iz) PX Qa Qc;have abu:=dh (st:=jZ) abq abr abt;have Vj:=dh (st:=jy) Vc Vd Ve;have Ql:=dh (st:=iB) Qe Qf Qg;have Jc:=dh (st:=gw) IV IW Ja;have Ab:=dh (st:=dF) zY zZ Aa;have Ci:=dh (st:=dI) BX BZ Ca;have Gr:=dh (st:=fj) Gn Gp Gq;have Yi:=dh (st:=jl) Yb Yc Yd;have ang:=dh (st:=rE) amX amY amZ;refine⟨c9 "law" "law" (bJ rE) (bC rE) (aD rE) .none aeL aeM aeN aeK Xz aeO,fun s v=>.of_eq rfl,fun base _ _=>?_⟩;have dw:=Hh (P:=l.prog) (w:=w) (base:=base) T Qi (de X G Pu);have dY:=Nf (P:=l.prog) (w:=w) (base:=base) T Vf (de X G Um);have pQ:=abf (P:=l.prog) (w:=w) (base:=base) T aeV (de X G aeP);have kE:=Tc (P:=l.prog) (w:=w) (base:=base) T Yg (de X G XC) dw pQ;have kj:=Te (P:=l.prog) (w:=w) (base:=base) T Yh (de X G XJ) pQ;have mz:=yO (P:=l.prog) (w:=w) (base:=base) T Cd (de X G Bp) dY;have gA:=Fw (P:=l.prog) (w:=w) (base:=base) T Jb (de X G Iu) dw;have mC:=yP (P:=l.prog) (w:=w) (base:=base) T Ce (de X G Bv) gA dY;have dJ:=yQ (P:=l.prog) (w:=w) (base:=base) T Cg (de X G BK) mz gA dY dw mC;have Nm:=aeo (P:=l.prog) (w:=w) (base:=base) T ahj (de X G agZ) dJ kj kE;have Np:=aer (P:=l.prog) (w:=w) (base:=base) T ahk (de X G ahd) kE kj dJ;have qN:=Hi (P:=l.prog) (w:=w) (base:=base) T Qj (de X G PB);have tL:=Ng (P:=l.prog) (w:=w) (base:=base) T Vg (de X G Us) qN;have aU:=Nh (P:=l.prog) (w:=w) (base:=base) T Vh (de X G Uw);have tE:=Nj (P:=l.prog) (w:=w) (base:=base) T Vi (de X G UJ) aU;have qQ:=Hj (P:=l.prog) (w:=w) (base:=base) T Qk (de X G PN) aU tE;have yR:=Xo (P:=l.prog) (w:=w) (base:=base) T abu (de X G abp);have tM:=Nk (P:=l.prog) (w:=w) (base:=base) T Vj (de X G Vb) aU;have qR:=Hl (P:=l.prog) (w:=w) (base:=base) T Ql (de X G Qd) aU yR;have lG:=Fy (P:=l.prog) (w:=w) (base:=base) T Jc (de X G IK);have kI:=xq (P:=l.prog) (w:=w) (base:=base) T Ab (de X G zX) lG;have jd:=yU (P:=l.prog) (w:=w) (base:=base) T Ci (de X G BW) kI;have cV:=Bd (P:=l.prog) (w:=w) (base:=base) T Gr (de X G Gm);have qT:=Tf (P:=l.prog) (w:=w) (base:=base) T Yi (de X G XS) cV;exact alO ang qP fun cdv A outer s H E B hr=>amV T tL qQ qR tM qT cV jd Nm Np hr (rW pC rfl)
end
theorem aeW(m n:Int)(h:0 < n)(h2:n < 2 ^ 200):aP [.int m] [.int n]=.ok (.int (m % n),[.int (m / n)]):=by
 have run:ou (iM ["left","many","digit"] [.int m] [.int n])=.rx (.int (m % n)) [.op [.int (m / n)],.fz (.int n),.fz (.int (m % n))]:=by unfold ou;exact bB (adU (gj (aq (amE rfl rfl cj rfl) (aq (aH rfl) aO)) (aoE ⟨h,h2⟩)) rfl rfl cj rfl) (qG (iR (aH rfl)))
 unfold aP;rw[run];rfl
theorem xn{ρ:au}{i:Nat}{z:Sl}{m n:Int}{fs:au->Rs (List D)}(h0:ρ[i]?=some z)(l0:lent z=some [.int m])(hf:fs ρ=.ok [.int n])(h:0 < n)(h2:n < 2 ^ 200):xM i 1 aP (sS fs) ρ=.ok (.int (m % n),ρ.set i (iK z [.int (m / n)])) :=
 aaV h0 l0 (Zx hf) rfl h0 l0 (aeW m n h h2)
theorem abv{c k A1 A2 A3 p A4 q A5 A6 A7:Int}(e1:Az (.int c) (.int 1000000000000000009)=.ok (.int A1))(e2:jG (.int 7919) (.int k)=.ok (.int A2))(e3:jG (.int (A1 + A2 + 12345)) (.int 48271)=.ok (.int A3))(e4:Az (.int A3) (.int 2305843009213693951)=.ok (.int p))
  (e5:jG (.int p) (.int p)=.ok (.int A4)) (e6:Az (.int A4) (.int 2305843009213693921)=.ok (.int q)) (e7:jG (.int (q + k)) (.int 69621)=.ok (.int A5)) (e8:Az (.int A5) (.int 2305843009213693951)=.ok (.int A6)) (e9:ace (.int A6) (.int 8)=.ok (.int A7)) :
  iG [.int c,.int k]=.ok (.int A7):=by
 unfold iG qM;simp (config:={ decide:=false }) only[cB,amn,amo,amq,amr,aoW,JZ,ams,aoX,amt,amu,amv,amw,amx,ajV,mj,fM,aoB,yw,acz,aoD,rY,Ae,agd,ado,adp,aoC,bZ,aJ,fC,fA,fB,ao,aR,fT,rO,aoj,fOr,Jp,aok,abW,DK,fL,fSl,fP,aon,toB,toI,ajU,fO,nP,ajl,aoF,ajm,afK,WX,Fl,WY,ajW,ajX,ajY,ajZ,Xa,amA,akb,aoY,aoZ,apa,apb,apc,amB,pF,YL,ahV,amy,amC,amD,bh,oH,cN,qj,bF,b_,kq,cv,fI,gd,u5,rS,List.getElem?_cons_zero,rV,hZ,iP,Nat.reduceAdd,Nat.reduceSub,Nat.reduceEqDiff,Nat.reduceLeDiff,iO,Option.bind_some,if_true,if_false,ite_true,ite_false,decide_true,decide_false,eC,nL,bq,reduceIte,reduceCtorEq,e1,e2,e3,e4,e5,e6,e7,e8,e9]
theorem ahl(c:Int)(k:Nat)(hk:k < 24):∃n:Int,iG [.int c,.int k]=.ok (.int n):=by have e1:=QX (m:=c) (n:=1000000000000000009) (by decide);have e2:jG (.int 7919) (.int k)=.ok (.int (7919 * k)):=sZ (by omega);have e3:jG (.int (c % 1000000000000000009 + 7919 * k + 12345)) (.int 48271)=.ok (.int ((c % 1000000000000000009 + 7919 * k + 12345) * 48271)):=sZ (by decide);have e4:=QX (m:=(c % 1000000000000000009 + 7919 * k + 12345) * 48271) (n:=2305843009213693951) (by decide);have b1:0<=(c % 1000000000000000009 + 7919 * k + 12345) * 48271 % 2305843009213693951:=j0 _ (by decide);have b2:(c % 1000000000000000009 + 7919 * k + 12345) * 48271 % 2305843009213693951 < 2305843009213693951:=kB _ (by decide);generalize (c % 1000000000000000009 + 7919 * k + 12345) * 48271 % 2305843009213693951=p at e4 b1 b2;have e5:jG (.int p) (.int p)=.ok (.int (p * p)):=sZ (by omega);have e6:=QX (m:=p * p) (n:=2305843009213693921) (by decide);generalize p * p % 2305843009213693921=q at e6;have e7:jG (.int (q + k)) (.int 69621)=.ok (.int ((q + k) * 69621)):=sZ (by decide);have e8:=QX (m:=(q + k) * 69621) (n:=2305843009213693951) (by decide);generalize (q + k) * 69621 % 2305843009213693951=u at e8;exact⟨_,abv e1 e2 e3 e4 e5 e6 e7 e8 (alQ ⟨by decide,by decide⟩)⟩
theorem abw(c:Int):∃(n:Int) (a:Sl),Ds (bh 2) mW (fC (.int 24)) [.fz (.int c),.fz (.int 0),.no]=.nx [.fz (.int c),.fz (.int n),a]:=by
 obtain⟨ρ',e1,n,a,rfl⟩:=wC (h:=bh 2) (g:=mW) (fun ρ=>∃(n:Int) (a:Sl),ρ=[.fz (.int c),.fz (.int n),a])
  (ds:=(bu 24).map fun(i:Nat)=>.int i) (ρ:=[.fz (.int c),.fz (.int 0),.no]) ⟨_,_,rfl⟩ (by
   rintro d hd ρ ⟨n,a,rfl⟩;obtain⟨j,hj,rfl⟩:=c8.mp hd;obtain⟨x,hx⟩:=ahl c j (ef.mp hj);refine⟨_,_,rfl,?_,n * 1152921504606846976 + x % 1152921504606846976,.fz (.int j),rfl⟩;unfold mW;exact nO (bM (bM (aH rfl) cj (acB (.inr ⟨by decide,by decide⟩))) (bM (gj (aq (aH rfl) (aq (aH rfl) aO)) (cC rfl hx)) cj (QX (by decide))) fO))
 exact⟨n,a,Wc (N:=24) cj (by decide) rfl e1⟩
theorem akx(c:Int):∃m:Int,jA [.int c]=.ok [.int m]:=by
 have p1:QH (.int 10) (.int 18)=.ok (.int (10 ^ Int.toNat 18)):=alR ⟨by decide,by decide,by decide⟩;generalize (10:Int) ^ Int.toNat 18=T at p1;obtain⟨n,a,e⟩:=abw c;cases h:decide (T<=c) with
 |true =>
  refine⟨c - T,?_⟩;have run:jz (bF ["cell","great","k"] [.int c])=.rl [.int (c - T)]:=by
   unfold jz;have:yw (fT (bZ gGe (aJ 0) (bZ QH (fC (.int 10)) (fC (.int 18))))) (JT (ao (bZ lH (aJ 0) (bZ QH (fC (.int 10)) (fC (.int 18)))) aR)) Ae (bF ["cell","great","k"] [.int c])=.rl [.int (c - T)]:=by refine rZ (ug (bM (aH rfl) (bM cj cj p1) (by rw[afK,h]))) ?_;unfold JT;rw[aq (bM (aH (d:=.int c) rfl) (bM cj cj p1) nP) aO];rfl
   unfold cB;rw[this];rfl
  unfold jA;rw[run];rfl
 |false =>
  refine⟨n,?_⟩;have run:jz (bF ["cell","great","k"] [.int c])=.rl [.int n]:=by unfold jz;refine bB (jf (ug (bM (aH rfl) (bM cj cj p1) (by rw[afK,h]))) rH) ?_;refine bB (ρ1:=[.fz (.int c),.fz (.int 0),.no]) (nO cj) ?_;refine bB (pD e) ?_;rfl
  unfold jA;rw[run];rfl
theorem Kq{m w lx ly:Int}{s:Sl}:∃x y m':Int,vH (xA (gG (oN Vl.lH (oN cT (xP (bZ fY (aJ 2) (fC (.int 0)))) (xM 0 1 aP (sS (ao (fC (.int 5)) aR)))) (xP (fC (.int 2)))) (gG (oN Vl.lH (oN cT (xP (bZ fY (aJ 2) (fC (.int 1)))) (xM 0 1 aP (sS (ao (fC (.int 5)) aR)))) (xP (fC (.int 2)))) yJ)) Vl.dH) [.op [.int m],.fz (.int w),.fz (aj [lx,ly]),s]=.rx (aj [x,y]) [.op [.int m'],.fz (.int w),.fz (aj [lx,ly]),s] :=
 ⟨lx + m % 5 - 2,ly + m / 5 % 5 - 2,m / 5 / 5,qG (Xb (dR (fH (fH (iR (bM (aH rfl) cj rfl)) (xn rfl rfl (aq cj aO) (by decide) (by decide)) fO) (iR cj) nP) (dR (fH (fH (iR (bM (aH rfl) cj rfl)) (xn rfl rfl (aq cj aO) (by decide) (by decide)) fO) (iR cj) nP) qF)) (t2 _ _))⟩
theorem aky(m w lx ly sp:Int)(hs:-(2 ^ 64) < sp/\sp < 2 ^ 64):∃x y m':Int,jB [.int m] [.int w,aj [lx,ly],.int sp]=.ok (aj [x,y],[.int m']):=by
 have Qm:∀{x y m':Int}{zs:List Sl},gZ (iM ["left","way","lead","spread"] [.int m] [.int w,aj [lx,ly],.int sp])=.rx (aj [x,y]) (.op [.int m']::zs)->∃x y m':Int,jB [.int m] [.int w,aj [lx,ly],.int sp]=.ok (aj [x,y],[.int m']):=fun {x y m' zs} h=>⟨x,y,m',by unfold jB;rw[h];rfl⟩
 cases h3:decide (w=3) with
 |true =>
  have w3:w=3:=of_decide_eq_true h3;cases h0:decide (m % 3=0) with
  |true =>
   have ix:∃z:Int,fY (.lst [.int (-1000000),.int 1000000]) (.int (m / 3 / 2000001 % 2))=.ok (.int z):=by
    rcases(show m / 3 / 2000001 % 2=0∨m / 3 / 2000001 % 2=1 by omega) with e|e <;> rw[e]
    ·exact⟨_,rfl⟩
    ·exact⟨_,rfl⟩
   obtain⟨z,ix⟩:=ix;refine Qm (x:=m / 3 % 2000001 - 1000000) (y:=z) (m':=m / 3 / 2000001 / 2) (zs:=[.fz (.int w),.fz (aj [lx,ly]),.fz (.int sp)]) ?_;unfold gZ;refine Xc (Zz (ρ1:=[.op [.int (m / 3)],.fz (.int w),.fz (aj [lx,ly]),.fz (.int sp)]) (Sd (Zy (ug (bM (aH rfl) cj (by rw[pF,h3])))) (agC (fH (xn rfl rfl (aq cj aO) (by decide) (by decide)) (iR cj) (by rw[pF,h0])))) ?_);exact qG (Xb (dR (fH (xn rfl rfl (aq cj aO) (by decide) (by decide)) (iR cj) nP) (dR (fH (iR (gj (aq (QW cj) (aq cj aO)) (Af (by simp)))) (xn rfl rfl (aq cj aO) (by decide) (by decide)) ix) qF)) (t2 _ _))
  |false =>
   obtain⟨x,y,m',e⟩:=Kq (m:=m / 3) (w:=w) (lx:=lx) (ly:=ly) (s:=.fz (.int sp));refine Qm (x:=x) (y:=y) (m':=m') (zs:=[.fz (.int w),.fz (aj [lx,ly]),.fz (.int sp)]) ?_;unfold gZ;refine bB (CJ (ρ1:=[.op [.int (m / 3)],.fz (.int w),.fz (aj [lx,ly]),.fz (.int sp)]) (Sd (Zy (ug (bM (aH rfl) cj (by rw[pF,h3])))) (agC (fH (xn rfl rfl (aq cj aO) (by decide) (by decide)) (iR cj) (by rw[pF,h0])))) rH) ?_;refine bB (jf (ug (bM (aH rfl) cj (by rw[pF,w3];rfl))) rH) e
 |false =>
  cases h1:decide (w=1) with
  |true =>
   refine Qm (x:=0) (y:=(m % 13 - 6) * sp) (m':=m / 13) (zs:=[.fz (.int w),.fz (aj [lx,ly]),.fz (.int sp)]) ?_;unfold gZ;refine bB (CJ (ρ1:=[.op [.int m],.fz (.int w),.fz (aj [lx,ly]),.fz (.int sp)]) (RZ (Zy (ug (bM (aH rfl) cj (by rw[pF,h3]))))) rH) ?_;refine Xc (rZ (ug (bM (aH rfl) cj (by rw[pF,h1]))) ?_);exact qG (Xb (dR (iR cj) (dR (fH (fH (xn rfl rfl (aq cj aO) (by decide) (by decide)) (iR cj) nP) (iR (aH rfl)) (sZ hs)) qF)) (t2 _ _))
  |false =>
   obtain⟨x,y,m',e⟩:=Kq (m:=m) (w:=w) (lx:=lx) (ly:=ly) (s:=.fz (.int sp));refine Qm (x:=x) (y:=y) (m':=m') (zs:=[.fz (.int w),.fz (aj [lx,ly]),.fz (.int sp)]) ?_;unfold gZ;refine bB (CJ (ρ1:=[.op [.int m],.fz (.int w),.fz (aj [lx,ly]),.fz (.int sp)]) (RZ (Zy (ug (bM (aH rfl) cj (by rw[pF,h3]))))) rH) ?_;exact bB (jf (ug (bM (aH rfl) cj (by rw[pF,h1]))) rH) e
theorem Gs{w mn lx ly sp:Int}(hs:-(2 ^ 64) < sp/\sp < 2 ^ 64):∀(l:List Nat) (m:Int) (kvs:List (List Int×D)) (a6:Sl),GN kvs->kvs.length + l.length<=1000 ->
  ∃(m':Int) (kvs':List (List Int×D)) (b6:Sl),dD (bh 6) lu (l.map fun(i:Nat)=>.int i) [.op [.int m],.fz (.int w),.fz (.int mn),.fz (.int sp),.fz (aj [lx,ly]),.od kvs,a6]=.nx [.op [.int m'],.fz (.int w),.fz (.int mn),.fz (.int sp),.fz (aj [lx,ly]),.od kvs',b6]/\GN kvs'/\kvs'.length<=kvs.length + l.length/\(kvs≠[]∨l≠[]->kvs'≠[])
 | [],m,kvs,a6,g,_=>⟨m,kvs,a6,rfl,g,by simp,fun h=>h.elim id fun z=>(z rfl).elim⟩
 |i::l,m,kvs,a6,g,hl=>by
  simp only[cv]at hl;obtain⟨x,y,m1,e⟩:=aky m w lx ly sp hs;have lp:=ux kvs [x,y] (.bl true);have hb:lu [.op [.int m],.fz (.int w),.fz (.int mn),.fz (.int sp),.fz (aj [lx,ly]),.od kvs,.fz (.int i)]=.nx [.op [.int m1],.fz (.int w),.fz (.int mn),.fz (.int sp),.fz (aj [lx,ly]),.od (jh kvs [x,y] (.bl true)),.fz (.int i)]:=by unfold lu;exact ZC (ks:=[x,y]) (kvs:=kvs) rfl (aaV rfl rfl (Zx (aq (aH rfl) (aq (aH rfl) (aq (aH rfl) aO)))) rfl rfl rfl e) rfl cj (by omega) rfl
  obtain⟨m2,k2,b6,e2,g2,l2,ne⟩:=Gs (w:=w) (mn:=mn) (lx:=lx) (ly:=ly) hs l m1 (jh kvs [x,y] (.bl true)) (.fz (.int i)) (g.put _ _ _) (by omega);refine⟨m2,k2,b6,?_,g2,by simp only[cv];omega,fun _=>ne (.inl fun z=>?_)⟩
  ·simp only[b_,dD,bh,iP,hZ,hb];exact e2
  ·have:=(wR kvs [x,y] [x,y] (.bl true)).mpr (.inl rfl);rw[z]at this;cases this
structure Ps (n:Nat)(L:KL):Prop where
 pr:∀ks∈L,Pair ks
 nd:L.Nodup
 ex:∃L0,L=So.cu L0
 ne:L≠[]
 le:L.length<=n
theorem ZP{l:KL}(h:l.Nodup):(So.cu l).Nodup:=(So.eE l).nodup_iff.mpr h
theorem anh{n:Nat}{kvs:List (List Int×D)}(g:GN kvs)(ne:kvs≠[])(hl:kvs.length<=n):Ps n (So.cu (kvs.map (·.1))) :=
 ⟨fun ks hk=>g.pr ks (jY.mp hk),ZP g.nd,⟨_,rfl⟩,fun z=>ne (by
  have:=congrArg eI z;rw[pN,b8]at this;exact n4.mp this),by rw[pN,b8];exact hl⟩
theorem ahm(m:Int):∃(m':Int) (L:KL),jP [.int m] []=.ok (.tup (L.map aj),[.int m'])/\Ps 12 L:=by
 have w0:0<=m % 4:=j0 _ (by decide);have ix:∃z:Int,(0 < z/\z<=12)/\fY (.lst [.int 4,.int 3,.int 4,.int 12]) (.int (m / 4 % 4))=.ok (.int z):=by
  rcases(show m / 4 % 4=0∨m / 4 % 4=1∨m / 4 % 4=2∨m / 4 % 4=3 by omega) with e|e|e|e <;> rw[e]
  ·exact⟨_,by decide,rfl⟩
  ·exact⟨_,by decide,rfl⟩
  ·exact⟨_,by decide,rfl⟩
  ·exact⟨_,by decide,rfl⟩
 obtain⟨z,⟨z0,z12⟩,ix⟩:=ix;generalize hm1:m / 4 / 4 / z=m1;have d0:0<=m / 4 / 4 % z:=j0 _ (by omega);have d1:m / 4 / 4 % z < z:=kB _ (by omega);generalize hM:m / 4 / 4 % z=M at d0 d1;have ix2:∃s:Int,(-(2 ^ 64) < s/\s < 2 ^ 64)/\fY (.lst [.int 1,.int 1,.int 7,.int 100003]) (.int (m1 % 4))=.ok (.int s):=by
  rcases(show m1 % 4=0∨m1 % 4=1∨m1 % 4=2∨m1 % 4=3 by omega) with e|e|e|e <;> rw[e]
  ·exact⟨_,by decide,rfl⟩
  ·exact⟨_,by decide,rfl⟩
  ·exact⟨_,by decide,rfl⟩
  ·exact⟨_,by decide,rfl⟩
 obtain⟨s,hs,ix2⟩:=ix2;generalize hw:m % 4=w at w0;have lead:∃(m2 lx ly:Int),yw (fT (bZ Vv (aJ 1) (fC (.int 2)))) (yK 4 (xA (gG (oN Vl.lH (xM 0 1 aP (sS (ao (fC (.int 1999997)) aR))) (xP (fC (.int 999998)))) (gG (oN Vl.lH (xM 0 1 aP (sS (ao (fC (.int 1999997)) aR))) (xP (fC (.int 999998)))) yJ)) Vl.dH)) Ae
   [.op [.int (m1 / 4)],.fz (.int w),.fz (.int (1 + M)),.fz (.int s),.fz (aj [0,0]),.no,.no]=.nx [.op [.int m2],.fz (.int w),.fz (.int (1 + M)),.fz (.int s),.fz (aj [lx,ly]),.no,.no]:=by
  cases h:decide (w=2) with
  |false=>exact⟨m1 / 4,0,0,jf (ug (bM (aH rfl) cj (by rw[pF,h]))) rH⟩
  |true=>exact⟨m1 / 4 / 1999997 / 1999997,m1 / 4 % 1999997 - 999998,m1 / 4 / 1999997 % 1999997 - 999998,rZ (ug (bM (aH rfl) cj (by rw[pF,h]))) (nR (Xb (dR (fH (xn rfl rfl (aq cj aO) (by decide) (by decide)) (iR cj) nP) (dR (fH (xn rfl rfl (aq cj aO) (by decide) (by decide)) (iR cj) nP) qF)) (t2 _ _)) rfl)⟩
 obtain⟨m2,lx,ly,el⟩:=lead;obtain⟨M',rfl⟩:∃M':Nat,M=M':=⟨M.toNat,by omega⟩
 obtain⟨m3,kvs,b6,e,g,l,ne⟩:=Gs (w:=w) (mn:=1 + (M':Int)) (lx:=lx) (ly:=ly) hs (bu (1 + M')) m2 [] .no .nil (by rw[hW];simp only[fI];omega);rw[hW,fI]at l;have nn:kvs≠[]:=ne (.inr (by intro z;have:=congrArg eI z;rw[hW]at this;simp at this));refine⟨m3,_,?_,anh g nn (by omega)⟩;have run:mX (iM ["left","way","many","spread","lead","steps","k"] [.int m] [])=.rx (.tup ((So.cu (kvs.map (·.1))).map aj)) [.op [.int m3],.fz (.int w),.fz (.int (1 + M')),.fz (.int s),.fz (aj [lx,ly]),.od kvs,b6]:=by
  unfold mX;refine bB (ρ1:=[.op [.int (m / 4)],.fz (.int w),.no,.no,.no,.no,.no]) (by rw[<- hw];exact nR (xn rfl rfl (aq cj aO) (by decide) (by decide)) rfl) ?_;refine bB (ρ1:=[.op [.int m1],.fz (.int w),.fz (.int (1 + M')),.no,.no,.no,.no]) (by
   rw[<- hM,<- hm1];exact nR (fH (iR cj) (aaV rfl rfl (dR (fH (iR (gj (aq cj (aq cj (aq cj (aq cj aO)))) (Af (by simp)))) (xn rfl rfl (aq cj aO) (by decide) (by decide)) ix) qF) rfl rfl rfl (aeW _ z z0 (by omega))) fO) rfl) ?_
  refine bB (ρ1:=[.op [.int (m1 / 4)],.fz (.int w),.fz (.int (1 + M')),.fz (.int s),.no,.no,.no]) (nR (fH (iR (gj (aq cj (aq cj (aq cj (aq cj aO)))) (Af (by simp)))) (xn rfl rfl (aq cj aO) (by decide) (by decide)) ix2) rfl) ?_;refine bB (ρ1:=[.op [.int (m1 / 4)],.fz (.int w),.fz (.int (1 + M')),.fz (.int s),.fz (aj [0,0]),.no,.no]) (nO (gj (aq cj (aq cj aO)) (t2 _ _))) ?_;refine bB el ?_;refine bB (ρ1:=[.op [.int m2],.fz (.int w),.fz (.int (1 + M')),.fz (.int s),.fz (aj [lx,ly]),.od [],.no]) rfl ?_;refine bB (pD (Wc (n:=1 + (M':Int)) (N:=1 + M') (aH rfl) (by omega) (by omega) e)) ?_;exact qG (iR (gj (aq (agI rfl (by omega) g.pr) aO) rfl))
 unfold jP;rw[run];rfl
theorem ani{O:KL}(hp:∀ks∈O,Pair ks)(hl:O.length<=1000)(x y:Int):pR [.tup (O.map aj),aj [x,y]]=.ok (.lst ((O.map (ad [x,y])).map aj)):=by
 have c1:dG (oH 2 (cN (bh 0) (cN (bh 1) qj))) (fun _=>.ok true) vL 2 [1] (fL (aJ 0) VR) (bF ["piece","cell"] [.tup (O.map aj),aj [x,y]])=.ok (.lst ((O.map (ad [x,y])).map aj)):=by
  rw[eS];refine Lj (ds:=O.map aj) rfl ?_ (by rw[b8];omega);exact uw (fun ρ=>∃a b,ρ=[a,b,.fz (aj [x,y])]) aj _ ⟨_,_,rfl⟩ (by
   rintro ks hk ρ ⟨a,b,rfl⟩;obtain⟨r,c,rfl⟩:=hp ks hk;refine⟨[.fz (.int r),.fz (.int c),.fz (aj [x,y])],rfl,?_,_,_,rfl⟩;unfold vL;exact gj (aq (bM (bM (aH rfl) cj rfl) (aH rfl) fO) (aq (bM (bM (aH rfl) cj rfl) (aH rfl) fO) aO)) (t2 _ _))
 have run:uG (bF ["piece","cell"] [.tup (O.map aj),aj [x,y]])=.rt (.lst ((O.map (ad [x,y])).map aj)):=by unfold uG;exact lK c1
 unfold pR;rw[run];rfl
theorem akz(m:Int):∃x y m':Int,jC [.int m] []=.ok (aj [x,y],[.int m']):=by
 have e2:jG (.int 2) (.int 999900000000)=.ok (.int 1999800000000):=by rw[sZ (by decide)];exact congrArg (fun z=>Rs.ok (D.int z)) (by decide)
 have Qm:∀{x y m':Int}{zs:List Sl},lU (iM ["left","far"] [.int m] [])=.rx (aj [x,y]) (.op [.int m']::zs)->∃x y m':Int,jC [.int m] []=.ok (aj [x,y],[.int m']):=fun {x y m' zs} h=>⟨x,y,m',by unfold jC;rw[h];rfl⟩
 cases h:decide (0 < m % 3) with
 |true =>
  refine Qm (x:=0) (y:=0) (m':=m / 3) (zs:=[.no]) ?_;unfold lU;refine Xc (Zz (ρ1:=[.op [.int (m / 3)],.no]) (agC (fH (xn rfl rfl (aq cj aO) (by decide) (by decide)) (iR cj) (by rw[ajm,h]))) ?_);exact qG (iR (gj (aq cj (aq cj aO)) (t2 _ _)))
 |false =>
  refine Qm (x:=m / 3 % 1999800000001 - 999900000000) (y:=m / 3 / 1999800000001 % 1999800000001 - 999900000000) (m':=m / 3 / 1999800000001 / 1999800000001) (zs:=[.fz (.int 999900000000)]) ?_;unfold lU;refine bB (CJ (ρ1:=[.op [.int (m / 3)],.no]) (agC (fH (xn rfl rfl (aq cj aO) (by decide) (by decide)) (iR cj) (by rw[ajm,h]))) rH) ?_;refine bB (ρ1:=[.op [.int (m / 3)],.fz (.int 999900000000)]) (nO cj) ?_;refine agE (Xb (dR (fH (xn rfl rfl (aq (bM (bM cj (aH rfl) e2) cj fO) aO) (by decide) (by decide)) (iR (aH rfl)) nP) (dR (fH (xn rfl rfl (aq (bM (bM cj (aH rfl) e2) cj fO) aO) (by decide) (by decide)) (iR (aH rfl)) nP) qF)) (t2 _ _)) rfl
theorem Vk{z0 z1 z2 z3 z5 z6 z8:Sl}:∀(L:KL) (kvs:List (List Int×D)) (a7:Sl),(∀ks∈L,Pair ks)->GN kvs->kvs.length + L.length<=1000 ->
  ∃kvs' b7,dD (bh 7) lC (L.map aj) [z0,z1,z2,z3,.od kvs,z5,z6,a7,z8]=.nx [z0,z1,z2,z3,.od kvs',z5,z6,b7,z8]/\GN kvs'/\kvs'.length<=kvs.length + L.length
 | [],kvs,a7,_,g,_=>⟨kvs,a7,rfl,g,by simp⟩
 |s::L,kvs,a7,hp,g,hl=>by
  simp only[cv]at hl;obtain⟨x,y,rfl⟩:=hp s (.head _);have lp:=ux kvs [x,y] (.bl true);have hb:lC [z0,z1,z2,z3,.od kvs,z5,z6,.fz (aj [x,y]),z8]=.nx [z0,z1,z2,z3,.od (jh kvs [x,y] (.bl true)),z5,z6,.fz (aj [x,y]),z8]:=by unfold lC;exact ZD (ks:=[x,y]) cj rfl (aH rfl) (by omega)
  obtain⟨k2,b7,e2,g2,l2⟩:=Vk L (jh kvs [x,y] (.bl true)) (.fz (aj [x,y])) (fun z hz=>hp z (.tail _ hz)) (g.put _ _ _) (by omega);refine⟨k2,b7,?_,g2,by simp only[cv];omega⟩;simp only[b_,dD,bh,iP,hZ,hb];exact e2
theorem Vm{O:KL}{N:Nat}(hp:∀ks∈O,Pair ks)(hO:O.length<=N)(hN:N<=48){lx ly:Int}{z3 z8:Sl}:∀(l:List Nat) (m:Int) (kvs:List (List Int×D)) (a5 a6 a7:Sl),GN kvs->kvs.length + l.length * N<=1000 ->
  ∃m' kvs' b5 b6 b7,dD (bh 5) lD (l.map fun(i:Nat)=>.int i) [.op [.int m],.fz (.tup (O.map aj)),.fz (aj [lx,ly]),z3,.od kvs,a5,a6,a7,z8]=.nx [.op [.int m'],.fz (.tup (O.map aj)),.fz (aj [lx,ly]),z3,.od kvs',b5,b6,b7,z8]/\GN kvs'/\kvs'.length<=kvs.length + l.length * N
 | [],m,kvs,a5,a6,a7,g,_=>⟨m,kvs,a5,a6,a7,rfl,g,by simp⟩
 |i::l,m,kvs,a5,a6,a7,g,hl=>by
  simp only[cv,mM,mN]at hl;obtain⟨k1,b7,e1,g1,l1⟩:=Vk (z0:=.op [.int (m / 4 / 4)]) (z1:=.fz (.tup (O.map aj))) (z2:=.fz (aj [lx,ly])) (z3:=z3) (z5:=.fz (.int i)) (z6:=.fz (aj [lx + m % 4,ly + m / 4 % 4])) (z8:=z8) (O.map (ad [lx + m % 4,ly + m / 4 % 4])) kvs a7 (akc O _) g (by rw[b8];omega);rw[b8]at l1;have hb:lD [.op [.int m],.fz (.tup (O.map aj)),.fz (aj [lx,ly]),z3,.od kvs,.fz (.int i),a6,a7,z8]=.nx [.op [.int (m / 4 / 4)],.fz (.tup (O.map aj)),.fz (aj [lx,ly]),z3,.od k1,.fz (.int i),.fz (aj [lx + m % 4,ly + m / 4 % 4]),b7,z8]:=by unfold lD;refine bB (ρ1:=[.op [.int (m / 4 / 4)],.fz (.tup (O.map aj)),.fz (aj [lx,ly]),z3,.od kvs,.fz (.int i),.fz (aj [lx + m % 4,ly + m / 4 % 4]),a7,z8]) (nR (Xb (dR (fH (iR (bM (aH rfl) cj rfl)) (xn rfl rfl (aq cj aO) (by decide) (by decide)) fO) (dR (fH (iR (bM (aH rfl) cj rfl)) (xn rfl rfl (aq cj aO) (by decide) (by decide)) fO) qF)) (t2 _ _)) rfl) ?_;exact Wd (gj (aq (aH rfl) (aq (aH rfl) aO)) (cC rfl (ani hp (by omega) _ _))) e1
  obtain⟨m2,k2,b5,b6,c7,e2,g2,l2⟩:=Vm hp hO hN (lx:=lx) (ly:=ly) (z3:=z3) (z8:=z8) l (m / 4 / 4) k1 (.fz (.int i)) (.fz (aj [lx + m % 4,ly + m / 4 % 4])) b7 g1 (by omega);refine⟨m2,k2,b5,b6,c7,?_,g2,by simp only[cv,mM,mN];omega⟩;simp only[b_,dD,bh,iP,hZ,hb];exact e2
theorem Vn{lx ly:Int}{z1 z3 z6 z7 z8:Sl}:∀(l:List Nat) (m:Int) (kvs:List (List Int×D)) (a5:Sl),GN kvs->kvs.length + l.length<=1000 ->
  ∃m' kvs' b5,dD (bh 5) lE (l.map fun(i:Nat)=>.int i) [.op [.int m],z1,.fz (aj [lx,ly]),z3,.od kvs,a5,z6,z7,z8]=.nx [.op [.int m'],z1,.fz (aj [lx,ly]),z3,.od kvs',b5,z6,z7,z8]/\GN kvs'/\kvs'.length<=kvs.length + l.length
 | [],m,kvs,a5,g,_=>⟨m,kvs,a5,rfl,g,by simp⟩
 |i::l,m,kvs,a5,g,hl=>by
  simp only[cv]at hl;have lp:=ux kvs [lx + m % 9 - 3,ly + m / 9 % 9 - 3] (.bl true);have hb:lE [.op [.int m],z1,.fz (aj [lx,ly]),z3,.od kvs,.fz (.int i),z6,z7,z8]=.nx [.op [.int (m / 9 / 9)],z1,.fz (aj [lx,ly]),z3,.od (jh kvs [lx + m % 9 - 3,ly + m / 9 % 9 - 3] (.bl true)),.fz (.int i),z6,z7,z8]:=by unfold lE;exact ZC (ks:=[lx + m % 9 - 3,ly + m / 9 % 9 - 3]) (kvs:=kvs) rfl (Xb (dR (fH (fH (iR (bM (aH rfl) cj rfl)) (xn rfl rfl (aq cj aO) (by decide) (by decide)) fO) (iR cj) nP) (dR (fH (fH (iR (bM (aH rfl) cj rfl)) (xn rfl rfl (aq cj aO) (by decide) (by decide)) fO) (iR cj) nP) qF)) (t2 _ _)) rfl cj (by omega) rfl
  obtain⟨m2,k2,b5,e2,g2,l2⟩:=Vn (lx:=lx) (ly:=ly) (z1:=z1) (z3:=z3) (z6:=z6) (z7:=z7) (z8:=z8) l (m / 9 / 9) (jh kvs [lx + m % 9 - 3,ly + m / 9 % 9 - 3] (.bl true)) (.fz (.int i)) (g.put _ _ _) (by omega);refine⟨m2,k2,b5,?_,g2,by simp only[cv];omega⟩;simp only[b_,dD,bh,iP,hZ,hb];exact e2
theorem ZQ(L:KL):QM (.lst (L.map aj)) (.lst [])=.ok (.bl (!decide (L=[]))):=by
 have hd:cO (.lst (L.map aj))<=8:=by have:=aaU L;simp only[cO];omega
 rw[alS hd (by decide)];cases L <;> rfl
theorem ur{α β:Type}(f:α->β):∀(l:List α) (n:Nat),(l.map f).eraseIdx n=(l.eraseIdx n).map f
 | [],_=>rfl
 |_::_,0=>rfl
 |a::l,n + 1=>by simp only[b_,qi,ur f l n]
theorem Vo{z1 z2 z3 z4 z6 z7:Sl}:∀(l:List Nat) (m:Int) (A:KL) (a5:Sl),A.length<=1000 ->
  ∃(m':Int) (A':KL) (b5:Sl),dD (bh 5) lF (l.map fun(i:Nat)=>.int i) [.op [.int m],z1,z2,z3,z4,a5,z6,z7,.ow (A.map aj)]=.nx [.op [.int m'],z1,z2,z3,z4,b5,z6,z7,.ow (A'.map aj)]/\A'.Sublist A
 | [],m,A,a5,_=>⟨m,A,a5,rfl,List.Sublist.refl _⟩
 |i::l,m,A,a5,hl=>by
  have hb:∃(m1:Int) (A1:KL),lF [.op [.int m],z1,z2,z3,z4,.fz (.int i),z6,z7,.ow (A.map aj)]=.nx [.op [.int m1],z1,z2,z3,z4,.fz (.int i),z6,z7,.ow (A1.map aj)]/\A1.Sublist A:=by
   unfold lF;cases h:decide (A=[]) with
   |true=>exact⟨m,A,jf (ug (adV rfl rfl (gj aO (Af (by simp))) (by rw[ZQ,h];rfl))) rH,List.Sublist.refl _⟩
   |false =>
    have hA:A≠[]:=of_decide_eq_false h;have h0:0 < A.length:=vw.mpr hA;have p0:0<=m % (A.length:Int):=j0 _ (by omega);have p1:m % (A.length:Int) < A.length:=kB _ (by omega);refine⟨m / A.length,A.eraseIdx (m % (A.length:Int)).toNat,rZ (ug (adV rfl rfl (gj aO (Af (by simp))) (by rw[ZQ,h];rfl))) ?_,List.eraseIdx_sublist _ _⟩;have ln:Zt 8 [.op [.int m],z1,z2,z3,z4,.fz (.int i),z6,z7,.ow (A.map aj)]=.ok (.int A.length):=by show Rs.ok (D.int ((A.map aj).length:Nat))=_;rw[b8]
    refine agH (es:=A.map aj) rfl (xn rfl rfl (aq ln aO) (by omega) (by omega)) rfl ⟨p0,by rw[b8];exact p1,by rw[b8];omega⟩ ?_;rw[ur];rfl
  obtain⟨m1,A1,hb,s1⟩:=hb;obtain⟨m2,A2,b5,e2,s2⟩:=Vo (z1:=z1) (z2:=z2) (z3:=z3) (z4:=z4) (z6:=z6) (z7:=z7) l m1 A1 (.fz (.int i)) (cx s1.length_le hl);refine⟨m2,A2,b5,?_,s2.trans s1⟩;simp only[b_,dD,bh,iP,hZ,hb];exact e2
structure Cl (n:Nat)(A:KL):Prop where
 pr:∀ks∈A,Pair ks
 nd:A.Nodup
 pw:A.Pairwise So.leK
 le:A.length<=n
theorem ahn{O:KL}{N:Nat}(hp:∀ks∈O,Pair ks)(hO:O.length<=N)(hN:N<=48)(m lx ly:Int):∃(A:KL) (b:Bool) (m':Int),jQ [.int m] [.tup (O.map aj),aj [lx,ly]]=.ok (sh A b,[.int m'])/\Cl (4 * N + 5) A:=by
 have cnt:∃n1:Int,(0 < n1/\n1<=5)/\(bZ cT (fC (.int 3)) (bZ jG (fC (.int 2)) (fA (ao (bZ gLt (fA (ao (aJ 1) aR) uI) (fC (.int 7))) aR) Wy))) [.op [.int (m / 3)],.fz (.tup (O.map aj)),.fz (aj [lx,ly]),.fz (.bl (decide (m % 3=0))),.od [],.no,.no,.no,.no]=.ok (.int n1):=by
  have hl:uI [.tup (O.map aj)]=.ok (.int O.length):=by rw[Fl,b8]
  cases h:decide ((O.length:Int) < 7) with
  |true=>exact⟨5,by decide,bM cj (bM cj (gj (aq (bM (gj (aq (aH rfl) aO) hl) cj (by rw[ajl,h])) aO) Xa) (sZ (by decide))) rfl⟩
  |false=>exact⟨3,by decide,bM cj (bM cj (gj (aq (bM (gj (aq (aH rfl) aO) hl) cj (by rw[ajl,h])) aO) Xa) (sZ (by decide))) rfl⟩
 obtain⟨n1,⟨c0,c1⟩,ec⟩:=cnt;have d0:0<=m / 3 % n1:=j0 _ (by omega);have d1:m / 3 % n1 < n1:=kB _ (by omega);obtain⟨C,hC⟩:∃C:Nat,m / 3 % n1=C:=⟨(m / 3 % n1).toNat,by omega⟩
 have hmul:C * N<=4 * N:=r8 (by omega) (bj _);obtain⟨m2,k2,b5,b6,b7,e2,g2,l2⟩:=Vm hp hO hN (lx:=lx) (ly:=ly) (z3:=.fz (.bl (decide (m % 3=0)))) (z8:=.no) (bu C) (m / 3 / n1) [] .no .no .no .nil (by rw[hW,fI];omega);rw[hW,fI]at l2;have q0:0<=m2 % 6:=j0 _ (by decide);have q1:m2 % 6 < 6:=kB _ (by decide);obtain⟨C3,hC3⟩:∃C:Nat,m2 % 6=C:=⟨(m2 % 6).toNat,by omega⟩
 obtain⟨m3,k3,c5,e3,g3,l3⟩:=Vn (lx:=lx) (ly:=ly) (z1:=.fz (.tup (O.map aj))) (z3:=.fz (.bl (decide (m % 3=0)))) (z6:=b6) (z7:=b7) (z8:=.no) (bu C3) (m2 / 6) k2 b5 g2 (by rw[hW];omega);rw[hW]at l3;have r0:0<=m3 % 3:=j0 _ (by decide);have r1:m3 % 3 < 3:=kB _ (by decide);obtain⟨C4,hC4⟩:∃C:Nat,m3 % 3=C:=⟨(m3 % 3).toNat,by omega⟩
 have lk:(So.cu (k3.map (·.1))).length=k3.length:=by rw[pN,b8]
 obtain⟨m4,A,d5,e4,sA⟩:=Vo (z1:=.fz (.tup (O.map aj))) (z2:=.fz (aj [lx,ly])) (z3:=.fz (.bl (decide (m % 3=0)))) (z4:=.od k3) (z6:=b6) (z7:=b7) (bu C4) (m3 / 3) (So.cu (k3.map (·.1))) c5 (by omega);refine⟨A,decide (m % 3=0),m4,?_,⟨fun ks hk=>g3.pr ks (jY.mp (sA.subset hk)),(ZP g3.nd).sublist sA,i8 sA (So.pH _),?_⟩⟩
 ·have run:mY (iM ["left","piece","lead","rest","cells","k","mark","cell","told"] [.int m] [.tup (O.map aj),aj [lx,ly]])=.rx (sh A (decide (m % 3=0))) [.op [.int m4],.fz (.tup (O.map aj)),.fz (aj [lx,ly]),.fz (.bl (decide (m % 3=0))),.od k3,d5,b6,b7,.fz (.lst (A.map aj))]:=by unfold mY;refine bB (ρ1:=[.op [.int (m / 3)],.fz (.tup (O.map aj)),.fz (aj [lx,ly]),.fz (.bl (decide (m % 3=0))),.no,.no,.no,.no,.no]) (nR (fH (xn rfl rfl (aq cj aO) (by decide) (by decide)) (iR cj) pF) rfl) ?_;refine bB (ρ1:=[.op [.int (m / 3)],.fz (.tup (O.map aj)),.fz (aj [lx,ly]),.fz (.bl (decide (m % 3=0))),.od [],.no,.no,.no,.no]) rfl ?_;refine bB (pD (Fp (N:=C) (ρ1:=[.op [.int (m / 3 / n1)],.fz (.tup (O.map aj)),.fz (aj [lx,ly]),.fz (.bl (decide (m % 3=0))),.od [],.no,.no,.no,.no]) (xn (i:=0) (z:=.op [.int (m / 3)]) (m:=m / 3) rfl rfl (aq ec aO) c0 (by omega)) (by omega) hC e2)) ?_;refine bB (pD (Fp (N:=C3) (ρ1:=[.op [.int (m2 / 6)],.fz (.tup (O.map aj)),.fz (aj [lx,ly]),.fz (.bl (decide (m % 3=0))),.od k2,b5,b6,b7,.no]) (xn (i:=0) (z:=.op [.int m2]) (m:=m2) (n:=6) rfl rfl (aq cj aO) (by decide) (by decide)) (by omega) hC3 e3)) ?_;refine bB (ρ1:=[.op [.int m3],.fz (.tup (O.map aj)),.fz (aj [lx,ly]),.fz (.bl (decide (m % 3=0))),.od k3,c5,b6,b7,.ow ((So.cu (k3.map (·.1))).map aj)]) (aaW rfl (by omega) g3.pr) ?_;refine bB (pD (Fp (N:=C4) (ρ1:=[.op [.int (m3 / 3)],.fz (.tup (O.map aj)),.fz (aj [lx,ly]),.fz (.bl (decide (m % 3=0))),.od k3,c5,b6,b7,.ow ((So.cu (k3.map (·.1))).map aj)]) (xn (i:=0) (z:=.op [.int m3]) (m:=m3) (n:=3) rfl rfl (aq cj aO) (by decide) (by decide)) (by omega) hC4 e4)) ?_;show vH _ [.op [.int m4],.fz (.tup (O.map aj)),.fz (aj [lx,ly]),.fz (.bl (decide (m % 3=0))),.od k3,d5,b6,b7,.fz (.lst (A.map aj))]=_;exact qG (iR (gj (aq (gj (aq (aH rfl) aO) WY) (aq (aH rfl) aO)) (t2 _ _)))
  unfold jQ;rw[run];rfl
 ·have:=sA.length_le;omega
theorem qZ(a b:List Int)(ha:Pair a)(hb:Pair b):dX [aj a,aj b]=.ok (aj (mi a b)):=by obtain⟨x,y,rfl⟩:=ha;obtain⟨z,w,rfl⟩:=hb;kernel_rfl
theorem pq(a b:List Int)(ha:Pair a)(hb:Pair b):dW [aj a,aj b]=.ok (aj (ad a b)):=by obtain⟨x,y,rfl⟩:=ha;obtain⟨z,w,rfl⟩:=hb;kernel_rfl
theorem aeX{ρ:au}{j:Nat}{kvs:List (List Int×D)}{ks:List Int}{w:D}{fs:au->Rs (List D)}(hj:ρ[j]?=some (.od kvs))(hf:fs ρ=.ok [aj ks,w]):Ew j fs ρ=.ok ((bV kvs ks).getD w):=by unfold Ew;rw[hj];dsimp only;rw[hf];simp only[JZ,nq]
theorem akA{ρ:au}{j:Nat}{kvs:List (List Int×D)}{ks:List Int}{w:D}{fs:au->Rs (List D)}(hj:ρ[j]?=some (.fz (dU kvs)))(hf:fs ρ=.ok [aj ks,w]):Ss j fs ρ=.ok ((bV kvs ks).getD w):=by unfold Ss;rw[hj];dsimp only;rw[hf];simp only[JZ,nq,wV]
theorem ahZ{kvs:List (List Int×D)}{ks:List Int}{d:D}(h:bV kvs ks=some d):Hf (dU kvs) (aj ks)=.ok d:=by unfold Hf;dsimp only;rw[nq];dsimp only;rw[wV,h]
theorem akB{kvs:List (List Int×D)}{ks:List Int}:Ba true (aj ks) (dU kvs)=.ok (.bl (!(bV kvs ks).isSome)):=by unfold Ba;dsimp only;rw[nq];dsimp only;rw[wV];rfl
theorem Aq{L:KL}{j:Nat}{x:List Int}(h:L[j]?=some x):fY (.tup (L.map aj)) (.int j)=.ok (aj x):=aoG (Yx (by rw[cf,h];rfl))
def SM(kvs:List (List Int×D)):Prop:=∀x,(∀d,bV kvs x=some d->∃n:Int,d=.int n)/\(x∈kvs.map (·.1)->Pair x/\Up x)
theorem akC{kvs:List (List Int×D)}{k:List Int}{n:Int}(h:SM kvs)(hk:Pair k)(hu:Up k):SM (jh kvs k (.int n)):=fun x=>by
 refine⟨fun d e=>?_,fun e=>?_⟩
 ·rw[MP]at e;by_cases c:x=k
  ·rw[if_pos c]at e;cases e;exact⟨_,rfl⟩
  ·rw[if_neg c]at e;exact(h x).1 d e
 ·rcases(wR _ _ _ _).mp e with rfl|e
  ·exact⟨hk,hu⟩
  ·exact(h x).2 e
theorem akD{kvs:List (List Int×D)}(h:SM kvs)(x:List Int):∃n:Int,(bV kvs x).getD (.int 0)=.int n:=by
 cases e:bV kvs x with
 |none=>exact⟨0,rfl⟩
 |some d=>obtain⟨n,rfl⟩:=(h x).1 d e;exact⟨n,rfl⟩
theorem Vp{O:KL}(hO:gM O){kvs:List (List Int×D)}{j:Nat}{a3:Sl}(hj:1 + j < O.length)(h:SM kvs)(hl:kvs.length<=1000000) :
  ∃kvs' b3,gH [.fz (.tup (O.map aj)),.od kvs,.fz (.int (1 + (j:Int))),a3]=.nx [.fz (.tup (O.map aj)),.od kvs',.fz (.int (1 + (j:Int))),b3]/\SM kvs'/\kvs'.length<=kvs.length + 1:=by
 have hj0:j < O.length:=by lia
 have hb:O[1 + j]?=some O[1 + j]:=d4 hj;have ha:O[j]?=some O[j]:=d4 hj0;have pb:=hO.pr _ (eB hj);have pa:=hO.pr _ (eB hj0);have lt:yN O[j] O[1 + j]:=j3.mp hO.pw j (1 + j) hj0 hj (by lia);generalize O[1 + j]=b at hb pb lt;generalize O[j]=a at ha pa lt;have up:Up (mi b a):=by
  unfold yN at lt;show 0 < c0 b - c0 a∨(0=c0 b - c0 a/\0 < c1 b - c1 a)
  lia
 obtain⟨n,en⟩:=akD h (mi b a);refine⟨jh kvs (mi b a) (.int (n + 1)),.fz (aj (mi b a)),?_,akC h (CN _ _) up,ux _ _ _⟩;unfold gH;have e1:(fA (ao (bZ fY (aJ 0) (aJ 2)) (ao (bZ fY (aJ 0) (bZ Vl.lH (aJ 2) (fC (.int 1)))) aR)) (bH 2 dX)) [.fz (.tup (O.map aj)),.od kvs,.fz (.int (1 + (j:Int))),a3]=.ok (aj (mi b a)):=by refine gj (aq (bM (aH rfl) (aH rfl) (Aq (j:=1 + j) hb)) (aq (bM (aH rfl) (bM (aH rfl) cj nP) ?_) aO)) (cC rfl (qZ _ _ pb pa));rw[show(1 + (j:Int) - 1)=(j:Int) by lia];exact Aq ha
 refine bB (nO e1) ?_;refine ZD (kvs:=kvs) (ks:=mi b a) (bM (aeX (kvs:=kvs) rfl (aq (aH rfl) (aq cj aO))) cj ?_) rfl (aH rfl) hl;rw[en];exact fO
theorem Av{O:KL}(hO:gM O):∀(l:List Nat) (kvs:List (List Int×D)) (a2 a3:Sl),(∀j∈l,1 + j < O.length)->SM kvs->kvs.length + l.length<=1000 ->
  ∃kvs' b2 b3,dD (bh 2) gH (l.map fun(i:Nat)=>.int (1 + (i:Int))) [.fz (.tup (O.map aj)),.od kvs,a2,a3]=.nx [.fz (.tup (O.map aj)),.od kvs',b2,b3]/\SM kvs'/\kvs'.length<=kvs.length + l.length
 | [],kvs,a2,a3,_,h,_=>⟨kvs,a2,a3,rfl,h,bj _⟩
 |j::l,kvs,a2,a3,hj,h,hl=>by simp only[cv]at hl;obtain⟨k1,b3,e1,h1,l1⟩:=Vp hO (j:=j) (a3:=a3) (hj j (.head _)) h (by lia);obtain⟨k2,c2,c3,e2,h2,l2⟩:=Av hO l k1 (.fz (.int (1 + (j:Int)))) b3 (fun i hi=>hj i (.tail _ hi)) h1 (by lia);refine⟨k2,c2,c3,?_,h2,by simp only[cv];lia⟩;simp only[b_,dD,bh,iP,hZ,e1];exact e2
theorem ZR{kvs all:List (List Int×D)}{ρ:au}(hr:ρ[1]?=some (.fz (dU all)))(h:SM all):∀{L:KL},(∀x∈L,x∈all.map (·.1))->∃ks,tu (bZ Hf (aJ 1) (aJ 0)) [1] ρ (L.map aj)=.ok ks
 | [],_=>⟨[],rfl⟩
 |x::L,hx=>by
  obtain⟨ks,e⟩:=ZR (kvs:=kvs) hr h (L:=L) fun y hy=>hx y (.tail _ hy);have:(bV all x).isSome=true:=by rw[qH];exact decide_eq_true (hx x (.head _))
  cases g:bV all x with
  |none=>rw[g]at this;cases this
  |some d =>
   obtain⟨n,rfl⟩:=(h x).1 d g;have st:kY (aj x) [1] ρ=[.fz (aj x),.fz (dU all)]:=by simp only[kY,b_,kq,hr]
   refine⟨n::ks,?_⟩;simp only[b_,tu,st];rw[show(bZ Hf (aJ 1) (aJ 0)) [.fz (aj x),.fz (dU all)]=.ok (.int n) from bM (aH rfl) (aH rfl) (ahZ g)];simp only[e,JZ]
theorem aho{h:Tg}{g:au->Ou}{ρ:au}{r:Ou}{m:Int}{N:Nat}{fs:au->Rs (List D)}(h1:fs ρ=.ok [.int m,.int (m + (N:Int))])(h0:0<=m)(hm:m < 1000000)(hN:N < 1000000)(h2:dD h g ((bu N).map fun(i:Nat)=>.int (m + i)) ρ=r):Dt h g fs ρ=r:=by
 have hc:-(2 ^ 62)<=m/\m < 2 ^ 62/\-(2 ^ 62)<=m + (N:Int)/\m + (N:Int) < 2 ^ 62:=by lia
 unfold Dt;rw[h1];simp only[oR];rw[if_pos hc,show(m + (N:Int) - m).toNat=N by lia];exact h2
theorem aeY{O:KL}(hO:gM O)(ho:O.length<=900)(hne:O≠[]):∃st,fW [.tup (O.map aj)]=.ok (aj st)/\Pair st/\Up st:=by
 obtain⟨kvs,b2,b3,e,h,l⟩:=Av hO (bu (O.length - 1)) [] .no .no (fun j hj=>by have:=ef.mp hj;lia) (fun x=>⟨fun d z=>(by cases z),fun z=>(by cases z)⟩) (by simp;lia);rw[hW,fI]at l;obtain⟨ks,ek⟩:=ZR (kvs:=kvs) (ρ:=[.fz (.tup (O.map aj)),.fz (dU kvs),b2,b3]) rfl h (L:=kvs.map (·.1)) fun x hx=>hx;have Qm:∃st,Sw [1] (fB (aJ 1) vJ) (bZ Hf (aJ 1) (aJ 0)) (fA (ao (fC (.int 0)) (ao (fC (.int 1)) aR)) dH) [.fz (.tup (O.map aj)),.fz (dU kvs),b2,b3]=.ok (aj st)/\Pair st/\Up st:=by
  unfold Sw;rw[show(fB (aJ 1) vJ) [.fz (.tup (O.map aj)),.fz (dU kvs),b2,b3]=.ok (.lst ((kvs.map (·.1)).map aj)) from v_b (aH rfl) (by unfold vJ;dsimp only;rw[if_pos (by rw[b8];lia)])];dsimp only;rw[show(fA (ao (fC (.int 0)) (ao (fC (.int 1)) aR)) dH) [.fz (.tup (O.map aj)),.fz (dU kvs),b2,b3]=.ok (aj [0,1]) from gj (aq cj (aq cj aO)) (t2 _ _)];dsimp only;rw[ek];dsimp only;rw[cf];cases g:(kvs.map (·.1))[Sv ks]? with
  |none=>exact⟨[0,1],rfl,⟨_,_,rfl⟩,.inr ⟨rfl,by decide⟩⟩
  |some x =>
   have:=(h x).2 (ko g);exact⟨x,rfl,this.1,this.2⟩
 obtain⟨st,e2,p,u⟩:=Qm;refine⟨st,?_,p,u⟩;have run:iV (bF ["piece","met","place","stride"] [.tup (O.map aj)])=.rt (aj st):=by
  unfold iV;refine bB (ρ1:=[.fz (.tup (O.map aj)),.od [],.no,.no]) rfl (bB (pD (ρ1:=[.fz (.tup (O.map aj)),.od kvs,b2,b3]) ?_) ?_)
  ·refine aho (m:=1) (N:=O.length - 1) (aq cj (aq (gj (aq (aH rfl) aO) (show uI [.tup (O.map aj)]=.ok (.int (1 + ((O.length - 1:Nat):Int))) from ?_)) aO)) (by decide) (by lia) (by lia) e;rw[Fl,b8];congr 2;have:=vw.mpr hne;lia
  ·show fM _ (Sh 1 [.fz (.tup (O.map aj)),.od kvs,b2,b3])=_;rw[show Sh 1 [.fz (.tup (O.map aj)),.od kvs,b2,b3]=[.fz (.tup (O.map aj)),.fz (dU kvs),b2,b3] from rfl];exact lK e2
 unfold fW;rw[run];rfl
theorem Kr{A:KL}{st:List Int}(hs:Pair st)(hu:Up st):∀(R S:KL) (kvs:List (List Int×D)) (a3:Sl),(∀x∈R,Pair x)->(∀x∈S,Pair x)->(∀x∈R,∀y∈S,yN x y)->R.Pairwise (fun a b=>yN b a)->vK S st kvs->kvs.length + R.length<=1000 ->
  ∃kvs' b3,dD (bh 3) iW (R.map aj) [.fz (.tup (A.map aj)),.fz (aj st),.od kvs,a3]=.nx [.fz (.tup (A.map aj)),.fz (aj st),.od kvs',b3]/\vK (R.reverse++S) st kvs'/\kvs'.length<=kvs.length + R.length
 | [],S,kvs,a3,_,_,_,_,h,_=>⟨kvs,a3,rfl,h,bj _⟩
 |c::R,S,kvs,a3,pr,ps,lt,pw,h,hl=>by
  simp only[cv]at hl;have hc:=pr c (.head _);obtain⟨n,e,h'⟩:=aeg hu hc ps (lt c (.head _)) h;have st1:iW [.fz (.tup (A.map aj)),.fz (aj st),.od kvs,.fz (aj c)]=.nx [.fz (.tup (A.map aj)),.fz (aj st),.od (jh kvs c (.int (n + 1))),.fz (aj c)]:=by unfold iW;refine ZD (kvs:=kvs) (ks:=c) (bM (aeX (kvs:=kvs) rfl (aq (gj (aq (aH rfl) (aq (aH rfl) aO)) (cC rfl (pq _ _ hc hs))) (aq cj aO))) cj ?_) rfl (aH rfl) (by lia);rw[e];exact fO
  have pc:=fq.mp pw;have lp:=ux kvs c (.int (n + 1));obtain⟨k2,b3,e2,h2,l2⟩:=Kr (A:=A) hs hu R (c::S) (jh kvs c (.int (n + 1))) (.fz (aj c)) (fun x hx=>pr x (.tail _ hx)) (fun x hx=>(bz.mp hx).elim (fun z=>z▸hc) (ps x)) (fun x hx y hy=>(bz.mp hy).elim (fun z=>z▸pc.1 x hx) (lt x (.tail _ hx) y)) pc.2 h' (by lia);refine⟨k2,b3,?_,?_,by simp only[cv];lia⟩
  ·simp only[b_,dD,bh,iP,hZ,st1];exact e2
  ·rw[vl,gN];exact h2
theorem aeZ{A:KL}(hA:gM A)(ha:A.length<=900){st:List Int}(hs:Pair st)(hu:Up st):∃kvs,eF [.tup (A.map aj),aj st]=.ok (dU kvs)/\vK A st kvs:=by
 obtain⟨kvs,b3,e,h,l⟩:=Kr (A:=A) hs hu A.reverse [] [] .no (fun x hx=>hA.pr x (oq.mp hx)) (fun x hx=>by cases hx) (fun x _ y hy=>by cases hy) (List.pairwise_reverse.mpr hA.pw) (fun x=>⟨fun z=>(by cases z),fun _=>rfl⟩) (by simp;lia);rw[List.reverse_reverse,gc]at h;refine⟨kvs,?_,h⟩;have run:kZ (bF ["cells","stride","lengths","cell"] [.tup (A.map aj),aj st])=.rt (dU kvs):=by
  unfold kZ;refine bB (ρ1:=[.fz (.tup (A.map aj)),.fz (aj st),.od [],.no]) rfl (bB (pD (ρ1:=[.fz (.tup (A.map aj)),.fz (aj st),.od kvs,b3]) ?_) ?_)
  ·unfold Fb;rw[show(fL (aJ 0) asV) [.fz (.tup (A.map aj)),.fz (aj st),.od [],.no]=.ok (A.reverse.map aj) from v_l (aH rfl) (by unfold asV;dsimp only;rw[if_pos (by rw[b8];lia),List.map_reverse])];exact e
  ·exact lK (aH rfl)
 unfold eF;rw[run];rfl
theorem ahp{O:KL}(hO:gM O)(ho:O.length<=900){st:List Int}(hs:Pair st)(hu:Up st):∃len:List Int->Nat,(∀x∈O,Kg O st x (len x))/\fX [.tup (O.map aj),aj st]=.ok (.lst ((O.filter fun x=>decide (mi x st∉O)).map fun h=>.tup [aj h,.int (len h)])):=by
 obtain⟨kvs,e,h⟩:=aeZ hO ho hs hu
 let len:List Int->Nat:=fun x=>match bV kvs x with|some (.int n)=>n.toNat|_=>0
 have hlen:∀x∈O,bV kvs x=some (.int (len x))/\Kg O st x (len x):=fun x hx=>by
  obtain⟨n,e,r⟩:=(h x).1 hx;have:len x=n:=by show(match bV kvs x with|some (.int n)=>n.toNat|_=>0)=n;rw[e];simp
  rw[this];exact⟨e,r⟩
 refine⟨len,fun x hx=>(hlen x hx).2,?_⟩;have cm:dG (bh 0) jM nU 1 [2,1] (fL (aJ 0) VR) [.fz (.tup (O.map aj)),.fz (aj st),.fz (dU kvs),.no]=.ok (.lst ((O.filter fun x=>decide (mi x st∉O)).map aj)):=by
  refine Ka (cs:=[.fz (dU kvs),.fz (aj st)]) rfl (v_l (aH rfl) rfl) (fun ks hk=>?_) (fun ks hk=>aH rfl) (by lia);unfold jM;refine ug (bM (gj (aq (aH rfl) (aq (aH rfl) aO)) (cC rfl (qZ _ _ (hO.pr ks hk) hs))) (aH rfl) ?_);rw[akB];congr 2;by_cases c:mi ks st∈O
  ·obtain⟨n,e,_⟩:=(h _).1 c;rw[e];simp[c]
  ·rw[(h _).2 c];simp[c]
 have run:iY (bF ["piece","stride","lengths","heads"] [.tup (O.map aj),aj st])=.rt (.lst ((O.filter fun x=>decide (mi x st∉O)).map fun h=>.tup [aj h,.int (len h)])):=by unfold iY;refine bB (nO (gj (aq (aH rfl) (aq (aH rfl) aO)) (cC rfl e))) (bB (nO cm) ?_);refine lK ?_;refine wU (cs:=[.fz (dU kvs)]) rfl (v_l (aH rfl) rfl) (fun ks hk=>?_) (cx (mE _ _) (by lia));unfold nW;exact gj (aq (aH rfl) (aq (bM (aH rfl) (aH rfl) (ahZ (hlen ks (eQ.mp hk).1).1)) aO)) (t2 _ _)
 unfold fX;rw[run];rfl
theorem Aw{A O:KL}{st:List Int}{kvs:List (List Int×D)}(hk:vK A st kvs){len:List Int->Nat}{a0 a1 a2:Sl}:∀(Hs P:KL) (a5 a6:Sl),(∀h∈Hs,Pair h/\0 < len h)->(∀p∈P,Pair p)->P.length<=1000 ->
  ∃(P':KL) (b5 b6:Sl),dD (oH 2 (cN (bh 5) (cN (bh 6) qj))) gJ (Hs.map fun h=>.tup [aj h,.int (len h)]) [a0,a1,a2,.fz (dU kvs),.fz (.lst (P.map aj)),a5,a6]=.nx [a0,a1,a2,.fz (dU kvs),.fz (.lst (P'.map aj)),b5,b6] /\
   ∃t:List Int->Bool,P'=P.filter t/\∀p∈P,(t p=true↔∀h∈Hs,∀j,j < len h->go st (ad p h) j∈A)
 | [],P,a5,a6,_,_,_=>⟨P,a5,a6,rfl,fun _=>true,(List.filter_eq_self.mpr fun _ _=>rfl).symm,fun p _=>⟨fun _ h hh=>(by cases hh),fun _=>rfl⟩⟩
 |h::Hs,P,a5,a6,hh,hP,hl=>by
  obtain⟨ph,pos⟩:=hh h (.head _)
  let t1:List Int->Bool:=fun p=>match (bV kvs (ad p h)).getD (.int 0) with|.int m=>decide ((len h:Int)<=m)|_=>false
  have tt:∀p,(t1 p=true↔∀j,j < len h->go st (ad p h) j∈A)/\∃m:Nat,(bV kvs (ad p h)).getD (.int 0)=.int m/\t1 p=decide ((len h:Int)<=m):=fun p=>by
   obtain⟨m,e,iff⟩:=akl pos (CK p h) hk;have e1:t1 p=decide ((len h:Int)<=m):=by show(match (bV kvs (ad p h)).getD (.int 0) with|.int m=>decide ((len h:Int)<=m)|_=>false)=_;rw[e]
   refine⟨?_,m,e,e1⟩;rw[e1,decide_eq_true_eq,<- iff];lia
  have cm:dG (bh 0) jO nY 1 [6,3,5] (fL (aJ 4) asL) [a0,a1,a2,.fz (dU kvs),.fz (.lst (P.map aj)),.fz (aj h),.fz (.int (len h))]=.ok (.lst ((P.filter t1).map aj)):=by refine Ka (cs:=[.fz (.int (len h)),.fz (dU kvs),.fz (aj h)]) rfl (v_l (aH rfl) rfl) (fun p hp=>?_) (fun ks hk=>aH rfl) hl;obtain⟨_,m,e,e1⟩:=tt p;unfold jO;refine ug (bM (akA (kvs:=kvs) rfl (aq (gj (aq (aH rfl) (aq (aH rfl) aO)) (cC rfl (pq _ _ (hP p hp) ph))) (aq cj aO))) (aH rfl) ?_);rw[e,e1];exact afK
  have st1:gJ [a0,a1,a2,.fz (dU kvs),.fz (.lst (P.map aj)),.fz (aj h),.fz (.int (len h))]=.nx [a0,a1,a2,.fz (dU kvs),.fz (.lst ((P.filter t1).map aj)),.fz (aj h),.fz (.int (len h))]:=by unfold gJ;exact nO cm
  obtain⟨P',b5,b6,e2,t,eP,ht⟩:=Aw (O:=O) hk (a0:=a0) (a1:=a1) (a2:=a2) Hs (P.filter t1) (.fz (aj h)) (.fz (.int (len h))) (fun x hx=>hh x (.tail _ hx)) (fun p hp=>hP p (eQ.mp hp).1) (cx (mE _ _) hl);refine⟨P',b5,b6,?_,fun p=>t p && t1 p,?_,fun p hp=>?_⟩
  ·simp only[b_,dD];rw[show oH 2 (cN (bh 5) (cN (bh 6) qj)) (.tup [aj h,.int (len h)]) [a0,a1,a2,.fz (dU kvs),.fz (.lst (P.map aj)),a5,a6]=some [a0,a1,a2,.fz (dU kvs),.fz (.lst (P.map aj)),.fz (aj h),.fz (.int (len h))] from rfl];simp only[st1];exact e2
  ·rw[eP,List.filter_filter]
  ·rw[ky,(tt p).1];constructor
   ·rintro⟨z1,z2⟩ x hx;rcases bz.mp hx with rfl|hx
    ·exact z2
    ·exact(ht p (eQ.mpr ⟨hp,(tt p).1.mpr z2⟩)).mp z1 x hx
   ·intro z;have z2:=z h (.head _);exact⟨(ht p (eQ.mpr ⟨hp,(tt p).1.mpr z2⟩)).mpr fun x hx=>z x (.tail _ hx),z2⟩
def ZS(A O:KL):KL:=(A.map fun x=>mi x (O.headD [])).filter fun p=>O.all fun t=>decide (ad p t∈A)
theorem Vq{A O:KL}(hA:gM A)(ha:A.length<=900)(hO:gM O)(ho:O.length<=900)(ne:O≠[]):cZ [.tup (A.map aj),.tup (O.map aj)]=.ok (.tup ((ZS A O).map aj)):=by
 obtain⟨st,es,ps,us⟩:=aeY hO ho ne;obtain⟨kvs,ek,hk⟩:=aeZ hA ha ps us;obtain⟨len,hl,eh⟩:=ahp hO ho ps us;have hd:∃o O',O=o::O':=by cases O with|nil=>exact(ne rfl).elim|cons o O'=>exact⟨o,O',rfl⟩
 obtain⟨o,O',eO⟩:=hd;have po:Pair o:=hO.pr o (by rw[eO];exact df);have h0:O.headD []=o:=by rw[eO];rfl
 have cm:dG (bh 0) (fun _=>.ok true) jN 1 [1] (fL (aJ 0) VR) [.fz (.tup (A.map aj)),.fz (.tup (O.map aj)),.fz (aj st),.fz (dU kvs),.no,.no,.no]=.ok (.lst ((A.map fun x=>mi x o).map aj)):=by rw[eS];refine wU (cs:=[.fz (.tup (O.map aj))]) rfl (v_l (aH rfl) rfl) (fun ks hk=>?_) (by lia);unfold jN;refine gj (aq (aH rfl) (aq (bM (aH rfl) cj (show fY (.tup (O.map aj)) (.int 0)=.ok (aj o) from ?_)) aO)) (cC rfl (qZ _ _ (hA.pr ks hk) po));exact Aq (j:=0) (by rw[eO];rfl)
 obtain⟨P',b5,b6,e2,t,eP,ht⟩:=Aw (O:=O) hk (len:=len) (a0:=.fz (.tup (A.map aj))) (a1:=.fz (.tup (O.map aj))) (a2:=.fz (aj st)) (O.filter fun x=>decide (mi x st∉O)) (A.map fun x=>mi x o) .no .no
  (fun h hh=>by
   have hm:=(eQ.mp hh).1;exact⟨hO.pr h hm,sN fun z=>(hl h hm).2 (by rw[z,nT (hO.pr h hm)];exact hm)⟩)
  (fun p hp=>by obtain⟨x,_,rfl⟩:=c8.mp hp;exact CN _ _) (by rw[b8];lia)
 have eq:P'=ZS A O:=by
  rw[eP];unfold ZS;rw[h0];refine List.filter_congr fun p hp=>?_;rw[Bool.eq_iff_iff,ht p hp,kz];simp only[decide_eq_true_eq];rw[<- aeh hO.pr us hl p];constructor
  ·intro z h hh hm;exact z h (eQ.mpr ⟨hh,decide_eq_true hm⟩)
  ·intro z h hh;have:=eQ.mp hh;exact z h this.1 (of_decide_eq_true this.2)
 have run:iZ (bF ["cells","piece","stride","lengths","places","head","length"] [.tup (A.map aj),.tup (O.map aj)])=.rt (.tup ((ZS A O).map aj)):=by unfold iZ;refine bB (nO (gj (aq (aH rfl) aO) (cC rfl es))) (bB (nO (gj (aq (aH rfl) (aq (aH rfl) aO)) (cC rfl ek))) (bB (nO cm) (bB (pD (Wd (gj (aq (aH rfl) (aq (aH rfl) aO)) (cC rfl eh)) e2)) ?_)));rw[<- eq];exact lK (gj (aq (aH rfl) aO) WY)
 unfold cZ;rw[run];rfl
theorem Vr{bf:KL}(hl:bf.length < 1000)(hp:∀ks∈bf,Pair ks):nD [.lst (bf.map aj)]=.ok (.tup ((rise bf).map aj)):=by have e:bF ["cells"] [.lst (bf.map aj)]=[.fz (.lst (bf.map aj))]:=rfl;unfold nD Fv;rw[e];rw[lK (gj (aq (agB (aH rfl) hl fun ks hk=>(hp ks hk).ne) aO) rfl)];rfl
structure Good (L:KL):Prop where
 st:gM L
 ne:L≠[]
 le:L.length<=48
theorem Good.pr{L:KL}(h:Good L):∀x∈L,Pair x:=h.st.pr
def ng(t:List Int):List Int:=[-(c0 t),-(c1 t)]
def ZV(O:KL):KL:=rise (O.map ng)
theorem xY{O:KL}{x:List Int}:x∈ZV O↔∃t∈O,ng t=x:=by unfold ZV;rw[Fo,c8]
theorem Gu{O:KL}(hO:Good O):Good (ZV O):=by
 refine⟨gM.rise fun x hx=>by obtain⟨t,_,rfl⟩:=c8.mp hx;exact⟨_,_,rfl⟩,?_,cx (wQ _) (by rw[b8];exact hO.le)⟩;intro z;cases O with
 |nil=>exact hO.ne rfl
 |cons o O=>exact gx (z▸xY.mpr ⟨o,df,rfl⟩:ng o∈[])
theorem Gv{O:KL}(hO:Good O):jo [.tup (O.map aj)]=.ok (.tup ((ZV O).map aj)):=by
 have lo:=hO.le;have c1:dG (bh 0) (fun _=>.ok true) wY 1 [] (fL (aJ 0) VR) [.fz (.tup (O.map aj))]=.ok (.lst ((O.map ng).map aj)):=by rw[eS];refine wU (cs:=[]) rfl rfl (fun ks hk=>?_) (cx hO.le (by decide));obtain⟨a,b,rfl⟩:=hO.pr ks hk;exact gj (aq (QW (bM (aH rfl) cj rfl)) (aq (QW (bM (aH rfl) cj rfl)) aO)) (t2 _ _)
 have rs:=Vr (bf:=O.map ng) (by rw[b8];lia) (fun x hx=>by obtain⟨t,_,rfl⟩:=c8.mp hx;exact⟨_,_,rfl⟩);have run:qL (bF ["piece"] [.tup (O.map aj)])=.rt (.tup ((ZV O).map aj)):=by unfold qL;exact lK (gj (aq c1 aO) (cC rfl rs))
 unfold jo;rw[run];rfl
def nH(A:KL):KL->KL
 | []=>[]
 |t::O=>A.map (fun a=>ad a t)++nH A O
theorem tZ{A:KL}{x:List Int}:∀{O:KL},x∈nH A O↔∃a∈A,∃t∈O,ad a t=x
 | []=>by simp[nH]
 |t::O=>by
  simp only[nH,dq,c8,tZ (O:=O),bz];constructor
  ·rintro(⟨a,ha,e⟩|⟨a,ha,u,hu,e⟩)
   ·exact⟨a,ha,t,.inl rfl,e⟩
   ·exact⟨a,ha,u,.inr hu,e⟩
  ·rintro⟨a,ha,u,rfl|hu,e⟩
   ·exact .inl ⟨a,ha,e⟩
   ·exact .inr ⟨a,ha,u,hu,e⟩
theorem xZ{A:KL}:∀{O:KL},(nH A O).length=O.length * A.length
 | []=>by simp[nH]
 |t::O=>by simp only[nH,dC,b8,cv,xZ (O:=O),mM,mN];lia
theorem akE{ρ:au}{i:Nat}{acc es:KL}{f:au->Rs D}(hi:ρ[i]?=some (.ow (acc.map aj)))(hf:f ρ=.ok (.lst (es.map aj)))(hl:acc.length + es.length<=1000000):JN i f ρ=.nx (ρ.set i (.ow ((acc++es).map aj))):=by unfold JN;rw[hi];dsimp only;rw[hf];simp only[amr];rw[if_pos (by simpa using hl),kC]
theorem Ks{A:KL}(hA:∀x∈A,Pair x)(ha:A.length<=1000){a1:Sl}:∀(O acc:KL) (a3:Sl),(∀x∈O,Pair x)->acc.length + O.length * A.length<=1000000 ->
  ∃b3,dD (bh 3) mU (O.map aj) [.fz (.tup (A.map aj)),a1,.ow (acc.map aj),a3]=.nx [.fz (.tup (A.map aj)),a1,.ow ((acc++nH A O).map aj),b3]
 | [],acc,a3,_,_=>⟨a3,by simp[nH,dD]⟩
 |t::O,acc,a3,hO,hl=>by
  have ht:=hO t (.head _);rw[cv,mM,mN]at hl;have c1:dG (bh 0) (fun _=>.ok true) wX 1 [3] (fL (aJ 0) VR) [.fz (.tup (A.map aj)),a1,.ow (acc.map aj),.fz (aj t)]=.ok (.lst ((A.map fun a=>ad a t).map aj)):=by rw[eS];exact wU (cs:=[.fz (aj t)]) rfl (v_l (aH rfl) rfl) (fun ks hk=>gj (aq (aH rfl) (aq (aH rfl) aO)) (cC rfl (pq _ _ (hA ks hk) ht))) ha
  have st:mU [.fz (.tup (A.map aj)),a1,.ow (acc.map aj),.fz (aj t)]=.nx [.fz (.tup (A.map aj)),a1,.ow ((acc++A.map fun a=>ad a t).map aj),.fz (aj t)]:=by unfold mU;exact akE rfl c1 (by rw[b8];lia)
  obtain⟨b3,e⟩:=Ks hA ha (a1:=a1) O (acc++A.map fun a=>ad a t) (.fz (aj t)) (fun x hx=>hO x (.tail _ hx)) (by rw[dC,b8];lia);refine⟨b3,?_⟩;simp only[b_,dD,bh,iP,hZ,st];rw[gN]at e;exact e
theorem Gw{A O:KL}(hA:∀x∈A,Pair x)(hO:∀x∈O,Pair x)(ha:A.length<=1000)(hl:O.length * A.length < 1000):jm [.tup (A.map aj),.tup (O.map aj)]=.ok (.tup ((rise (nH A O)).map aj)):=by
 obtain⟨b3,e⟩:=Ks hA ha (a1:=.fz (.tup (O.map aj))) O [] .no hO (by simp only[fI];lia);rw[rS]at e;have rs:=Vr (bf:=nH A O) (by rw[xZ];exact hl) (fun x hx=>by obtain⟨a,_,t,_,rfl⟩:=tZ.mp hx;exact CK _ _);have run:qK (bF ["one","other","sums","step"] [.tup (A.map aj),.tup (O.map aj)])=.rt (.tup ((rise (nH A O)).map aj)):=by unfold qK;refine bB (ρ1:=[.fz (.tup (A.map aj)),.fz (.tup (O.map aj)),.ow (([]:KL).map aj),.no]) rfl (bB (pD (Wf (aH rfl) e)) ?_);show fM _ (CT 2 [.fz (.tup (A.map aj)),.fz (.tup (O.map aj)),.ow ((nH A O).map aj),b3])=_;rw[show CT 2 [.fz (.tup (A.map aj)),.fz (.tup (O.map aj)),.ow ((nH A O).map aj),b3]=[.fz (.tup (A.map aj)),.fz (.tup (O.map aj)),.fz (.lst ((nH A O).map aj)),b3] from rfl];exact lK (gj (aq (aH rfl) aO) (cC rfl rs))
 unfold jm;rw[run];rfl
theorem ZW{A O:KL}:(ZS A O).length<=A.length:=by unfold ZS;exact cx (mE _ _) (by rw[b8];exact bj _)
theorem afa{A O:KL}(hA:gM A):gM (ZS A O):=(hA.amO _).filter _
theorem ZX{A O:KL}:∀x∈nH A O,Pair x:=fun x hx=>by obtain⟨a,_,t,_,rfl⟩:=tZ.mp hx;exact CK _ _
theorem aac{A O:KL}(ne:O≠[]){p:List Int}:p∈ZS A O↔Pair p/\∀t∈O,ad p t∈A:=by
 cases O with
 |nil=>exact(ne rfl).elim
 |cons o O =>
  unfold ZS;rw[eQ,c8,kz];constructor
  ·rintro⟨⟨x,hx,rfl⟩,h⟩;exact⟨CN _ _,fun t ht=>of_decide_eq_true (h t ht)⟩
  ·rintro⟨pp,h⟩;refine⟨⟨ad p o,h o df,?_⟩,fun t ht=>decide_eq_true (h t ht)⟩;rw[lR pp];show [c0 p + c0 o - c0 o,c1 p + c1 o - c1 o]=[c0 p,c1 p]
   rw[Int.add_sub_cancel,Int.add_sub_cancel]
def gr(A:KL)(b:Bool)(O:KL):KL:=if b then ZS A (ZV O) else rise (nH A O)
def ea(A:KL)(b:Bool)(O:KL):KL:=if b then rise (nH A (ZV O)) else ZS A O
theorem aad{O:KL}:(ZV O).length<=O.length:=cx (wQ _) (by rw[b8];exact bj _)
theorem ahq{A O:KL}{b:Bool}(hA:gM A)(ha:A.length<=900)(hO:Good O)(hl:b=false->O.length * A.length < 1000):nZ [sh A b,.tup (O.map aj)]=.ok (sh (gr A b O) b):=by
 have lo:=hO.le;cases b with
 |false =>
  have e2:=Gw (A:=A) (O:=O) hA.pr hO.pr (by lia) (hl rfl);have run:uE (bF ["shape","piece"] [sh A false,.tup (O.map aj)])=.rt (sh (rise (nH A O)) false):=by unfold uE;exact bB (jf (ug (bM (aH rfl) cj rfl)) rH) (lK (gj (aq (gj (aq (bM (aH rfl) cj rfl) (aq (aH rfl) aO)) (cC rfl e2)) (aq cj aO)) (t2 _ _)))
  unfold nZ;rw[run];rfl
 |true =>
  have gm:=Gu hO;have e2:=Vq (A:=A) (O:=ZV O) hA ha gm.st (by have:=gm.le;lia) gm.ne;have run:uE (bF ["shape","piece"] [sh A true,.tup (O.map aj)])=.rt (sh (ZS A (ZV O)) true):=by unfold uE;exact acA (rZ (ug (bM (aH rfl) cj rfl)) (lK (gj (aq (gj (aq (bM (aH rfl) cj rfl) (aq (gj (aq (aH rfl) aO) (cC rfl (Gv hO))) aO)) (cC rfl e2)) (aq cj aO)) (t2 _ _))))
  unfold nZ;rw[run];rfl
theorem ahr{A O:KL}{b:Bool}(hA:gM A)(ha:A.length<=900)(hO:Good O)(hl:b=true->O.length * A.length < 1000):oh [sh A b,.tup (O.map aj)]=.ok (sh (ea A b O) b):=by
 have lo:=hO.le;cases b with
 |false =>
  have e1:=Vq hA ha hO.st (by lia) hO.ne;have run:uF (bF ["shape","piece"] [sh A false,.tup (O.map aj)])=.rt (sh (ZS A O) false):=by unfold uF;exact bB (jf (ug (bM (aH rfl) cj rfl)) rH) (lK (gj (aq (gj (aq (bM (aH rfl) cj rfl) (aq (aH rfl) aO)) (cC rfl e1)) (aq cj aO)) (t2 _ _)))
  unfold oh;rw[run];rfl
 |true =>
  have gm:=Gu hO;have e1:=Gw (A:=A) (O:=ZV O) hA.pr gm.pr (by lia) (i5 (Nat.mul_le_mul_right _ aad) (hl rfl));have run:uF (bF ["shape","piece"] [sh A true,.tup (O.map aj)])=.rt (sh (rise (nH A (ZV O))) true):=by unfold uF;exact acA (rZ (ug (bM (aH rfl) cj rfl)) (lK (gj (aq (gj (aq (bM (aH rfl) cj rfl) (aq (gj (aq (aH rfl) aO) (cC rfl (Gv hO))) aO)) (cC rfl e1)) (aq cj aO)) (t2 _ _))))
  unfold oh;rw[run];rfl
theorem Yj{A O:KL}{b:Bool}(hA:gM A):gM (gr A b O):=by
 cases b with
 |true=>exact afa hA
 |false=>exact gM.rise ZX
theorem Yk{A O:KL}{b:Bool}(hA:gM A):gM (ea A b O):=by
 cases b with
 |false=>exact afa hA
 |true=>exact gM.rise ZX
theorem aps{A O:KL}{x:List Int}:x∈gr A false O↔∃a∈A,∃t∈O,ad a t=x:=by show x∈rise (nH A O)↔_;rw[Fo,tZ]
theorem apt{A O:KL}(hO:Good O){x:List Int}:x∈ea A false O↔Pair x/\∀t∈O,ad x t∈A:=aac hO.ne
theorem apu{A O:KL}(hO:Good O){x:List Int}:x∈gr A true O↔Pair x/\∀t∈O,ad x (ng t)∈A:=by show x∈ZS A (ZV O)↔_;rw[aac (Gu hO).ne];refine and_congr Iff.rfl ⟨fun h t ht=>h _ (xY.mpr ⟨t,ht,rfl⟩),fun h t ht=>?_⟩;obtain⟨u,hu,rfl⟩:=xY.mp ht;exact h u hu
theorem apv{A O:KL}{x:List Int}:x∈ea A true O↔∃a∈A,∃t∈O,ad a (ng t)=x:=by
 show x∈rise (nH A (ZV O))↔_;rw[Fo,tZ];constructor
 ·rintro⟨a,ha,t,ht,e⟩;obtain⟨u,hu,rfl⟩:=xY.mp ht;exact⟨a,ha,u,hu,e⟩
 ·rintro⟨a,ha,t,ht,e⟩;exact⟨a,ha,ng t,xY.mpr ⟨t,ht,rfl⟩,e⟩
end SQ
namespace SQ
open PySem PySem.Spec PySem.Calls PySem.W L2 Vl So
theorem Vs(i:Int):iT [.int i]=.ok (.bl true):=by kernel_rfl
theorem akF{L:KL}{j:Nat}{x:List Int}(h:L[j]?=some x):fY (.lst (L.map aj)) (.int j)=.ok (aj x):=alT (Yx (by rw[cf,h];rfl))
theorem Vt{L:KL}(hp:∀x∈L,Pair x)(hl:L.length<=100000):fu [.tup (L.map aj),.lst (L.map aj)]=.ok (.bl true):=by
 obtain⟨ρ',e1,a,rfl⟩:=wC (h:=bh 2) (g:=jR) (fun ρ=>∃a:Sl,ρ=[.fz (.tup (L.map aj)),.fz (.lst (L.map aj)),a])
  (ds:=(bu L.length).map fun(i:Nat)=>.int i) (ρ:=[.fz (.tup (L.map aj)),.fz (.lst (L.map aj)),.no]) ⟨_,rfl⟩ (by
   rintro d hd ρ ⟨a,rfl⟩;obtain⟨j,hj,rfl⟩:=c8.mp hd;have hj':=ef.mp hj;have hx:L[j]?=some L[j]:=d4 hj';have px:=hp _ (eB hj');generalize L[j]=x at hx px;obtain⟨r,c,rfl⟩:=px;refine⟨_,_,rfl,?_,.fz (.int j),rfl⟩;unfold jR;refine bB (jf (yD (Ag (t:=true) (ug (v_b (bM (aH rfl) (aH rfl) (Aq hx)) rfl))) (yD (ug (bM (gj (aq (bM (aH rfl) (aH rfl) (Aq hx)) aO) (show uI [aj [r,c]]=.ok (.int 2) from rfl)) cj (by rw[YL];rfl))) (ug (bM (bM (aH rfl) (aH rfl) (Aq hx)) (bM (aH rfl) (aH rfl) (akF hx)) (aay (by have:=RW [r,c];lia) rfl))))) rH) ?_;exact jf (yD (Ag (t:=true) (ug (gj (aq (bM (bM (aH rfl) (aH rfl) (Aq hx)) cj rfl) aO) (cC rfl (Vs r))))) (Ag (t:=true) (ug (gj (aq (bM (bM (aH rfl) (aH rfl) (Aq hx)) cj rfl) aO) (cC rfl (Vs c)))))) rH)
 have run:iH (bF ["found","due","k"] [.tup (L.map aj),.lst (L.map aj)])=.rt (.bl true):=by unfold iH;refine bB (jf (yD (Ag (t:=true) (ug (v_b (aH rfl) rfl))) (ug (bM (gj (aq (aH rfl) aO) Fl) (gj (aq (aH rfl) aO) WX) (by rw[YL,decide_eq_true rfl];rfl)))) rH) ?_;refine bB (pD (Wc (N:=L.length) (gj (aq (aH rfl) aO) WX) (by rw[b8];lia) (by rw[b8]) e1)) (lK cj)
 unfold fu;rw[run];rfl
theorem Gx{L:KL}{b:Bool}(hp:∀x∈L,Pair x)(hl:L.length<=100000):cg [sh L b,.tup [.lst (L.map aj),.bl b]]=.ok (.bl true):=by
 have bb:Vv (.bl b) (.bl b)=.ok (.bl true):=by cases b <;> rfl
 have ib:gIs .bool (.bl b)=.ok (.bl true):=by cases b <;> rfl
 have run:jc (bF ["found","due"] [sh L b,.tup [.lst (L.map aj),.bl b]])=.rt (.bl true):=by unfold jc;refine bB (jf (yD (Ag (t:=true) (ug (v_b (aH rfl) rfl))) (yD (ug (bM (gj (aq (aH rfl) aO) Fl) cj (by rw[YL];rfl))) (Ag (t:=true) (ug (v_b (bM (aH rfl) cj rfl) ib))))) rH) ?_;exact lK (ako (gj (aq (bM (aH rfl) cj rfl) (aq (bM (aH rfl) cj rfl) aO)) (cC rfl (Vt hp hl))) (bM (bM (aH rfl) cj rfl) (bM (aH rfl) cj rfl) bb))
 unfold cg;rw[run];rfl
def by_(s:Int)(a t:List Int):List Int:=[c0 a + s * c0 t,c1 a + s * c1 t]
theorem uH{A O:KL}(hA:∀x∈A,Pair x)(hO:∀x∈O,Pair x)(s:Int)(hs:-(2 ^ 64) < s/\s < 2 ^ 64)(hl:A.length * O.length<=1000) :
  ∃kvs,bT [.tup (A.map aj),.tup (O.map aj),.int s]=.ok (dU kvs)/\Km kvs (A.length * O.length) fun k=>∃a∈A,∃t∈O,k=by_ s a t:=by
 obtain⟨ρ',e,kvs,a4,a5,a6,a7,rfl,hk⟩:=Ft (h:=oH 2 (cN (bh 4) (cN (bh 5) qj))) (g:=mF) aj
  (fun done ρ=>∃kvs a4 a5 a6 a7,ρ=[.fz (.tup (A.map aj)),.fz (.tup (O.map aj)),.fz (.int s),.od kvs,a4,a5,a6,a7]/\Km kvs (done.length * O.length) fun k=>∃a∈done,∃t∈O,k=by_ s a t)
  (L:=A) (ρ:=[.fz (.tup (A.map aj)),.fz (.tup (O.map aj)),.fz (.int s),.od [],.no,.no,.no,.no]) ⟨_,_,_,_,_,rfl,Km.nil.mono (by simp) (by simp)⟩ (by
   rintro x done ρ hx hd ⟨kvs,a4,a5,a6,a7,rfl,hk⟩;obtain⟨r,c,rfl⟩:=hA x hx;have hb:done.length * O.length + O.length<=1000:=by have:=Nat.mul_le_mul_right O.length (show done.length + 1<=A.length from hd);rw[mM,mN]at this;lia
   obtain⟨ρ2,e2,kv2,b6,b7,rfl,hk2⟩:=Ft (h:=oH 2 (cN (bh 6) (cN (bh 7) qj))) (g:=mD) aj
    (fun dn ρ=>∃kv2 a6 a7,ρ=[.fz (.tup (A.map aj)),.fz (.tup (O.map aj)),.fz (.int s),.od kv2,.fz (.int r),.fz (.int c),a6,a7]/\Km kv2 (done.length * O.length + dn.length) fun k=>(∃t∈dn,k=by_ s [r,c] t)∨∃a∈done,∃t∈O,k=by_ s a t)
    (L:=O) (ρ:=[.fz (.tup (A.map aj)),.fz (.tup (O.map aj)),.fz (.int s),.od kvs,.fz (.int r),.fz (.int c),a6,a7]) ⟨_,_,_,rfl,hk.mono (by simp) (by simp)⟩ (by
     rintro y dn ρ hy hdn ⟨kv2,a6,a7,rfl,hk2⟩;obtain⟨u,v,rfl⟩:=hO y hy;have l2:=hk2.le;refine⟨_,[.fz (.tup (A.map aj)),.fz (.tup (O.map aj)),.fz (.int s),.od (jh kv2 [r + s * u,c + s * v] (.bl true)),.fz (.int r),.fz (.int c),.fz (.int u),.fz (.int v)],rfl,?_,_,_,_,rfl,?_⟩
     ·unfold mD;exact ZD (ks:=[r + s * u,c + s * v]) cj rfl (gj (aq (bM (aH rfl) (bM (aH rfl) (aH rfl) (Mw hs)) fO) (aq (bM (aH rfl) (bM (aH rfl) (aH rfl) (Mw hs)) fO) aO)) (t2 _ _)) (by lia)
     ·refine(hk2.put (r + s * u) (c + s * v) (.bl true) fun k=>Iff.rfl).mono (by rw[dC,o3];lia) fun k=>?_;constructor
      ·rintro(⟨t,ht,h⟩|h)
       ·rcases dq.mp ht with ht|ht
        ·exact .inr (.inl ⟨t,ht,h⟩)
        ·rw[dE.mp ht]at h;exact .inl h
       ·exact .inr (.inr h)
      ·rintro(h|⟨t,ht,h⟩|h)
       ·exact .inl ⟨[u,v],eA _ (dE.mpr rfl),h⟩
       ·exact .inl ⟨t,kT _ ht,h⟩
       ·exact .inr h)
   refine⟨_,_,rfl,?_,kv2,.fz (.int r),.fz (.int c),b6,b7,rfl,?_⟩
   ·unfold mF;exact Wf (aH rfl) e2
   ·refine hk2.mono (by rw[dC,o3,mM,mN];exact bj _) fun k=>?_;constructor
    ·rintro⟨a,ha,t,ht,h⟩;rcases dq.mp ha with ha|ha
     ·exact .inr ⟨a,ha,t,ht,h⟩
     ·rw[dE.mp ha]at h;exact .inl ⟨t,ht,h⟩
    ·rintro(⟨t,ht,h⟩|⟨a,ha,t,ht,h⟩)
     ·exact⟨[r,c],eA _ (dE.mpr rfl),t,ht,h⟩
     ·exact⟨a,kT _ ha,t,ht,h⟩)
 refine⟨kvs,?_,hk⟩;have run:jT (bF ["cells","piece","sign","told","row","column","further","beside"] [.tup (A.map aj),.tup (O.map aj),.int s])=.rt (dU kvs):=by unfold jT;refine bB (ρ1:=[.fz (.tup (A.map aj)),.fz (.tup (O.map aj)),.fz (.int s),.od [],.no,.no,.no,.no]) rfl (bB (pD (Wf (aH rfl) e)) ?_);show fM _ (Sh 3 [.fz (.tup (A.map aj)),.fz (.tup (O.map aj)),.fz (.int s),.od kvs,a4,a5,a6,a7])=_;rw[show Sh 3 [.fz (.tup (A.map aj)),.fz (.tup (O.map aj)),.fz (.int s),.od kvs,a4,a5,a6,a7]=[.fz (.tup (A.map aj)),.fz (.tup (O.map aj)),.fz (.int s),.fz (dU kvs),a4,a5,a6,a7] from rfl];exact lK (aH rfl)
 unfold bT;rw[run];rfl
theorem aia{A O:KL}(hA:gM A)(hO:Good O)(s:Int)(hs:s=1∨s=-1)(hl:A.length * O.length < 1000)(ha:A.length<=1000) :
  ∃M:KL,fU [.tup (A.map aj),.tup (O.map aj),.int s]=.ok (.lst (M.map aj))/\gM M/\M.length<=1000/\∀x,x∈M↔Pair x/\∀t∈O,by_ s x t∈A:=by
 have lo:=hO.le;obtain⟨k1,e1,h1⟩:=uH (A:=A) (O:=[[0,0]]) hA.pr (fun x hx=>by rw[dE.mp hx];exact⟨_,_,rfl⟩) 1 (by decide) (by simpa using ha);have m1:∀x,decide (x∈k1.map (·.1))=decide (x∈A):=fun x=>by
  congr 1;refine propext ((h1.iff x).trans ⟨?_,fun h=>⟨x,h,_,dE.mpr rfl,?_⟩⟩)
  ·rintro⟨a,ha,t,ht,h⟩;rw[dE.mp ht]at h;have:x=a:=by rw[h,lR (hA.pr a ha)];simp[by_,c0,c1]
   rw[this];exact ha
  ·rw[lR (hA.pr x h)];simp[by_,c0,c1]
 have hs':-(2 ^ 64) < (0 - s)/\(0 - s) < 2 ^ 64:=by rcases hs with rfl|rfl <;> decide
 have hs2:-(2 ^ 64) < s/\s < 2 ^ 64:=by rcases hs with rfl|rfl <;> decide
 obtain⟨k2,e2,h2⟩:=uH (A:=A) (O:=O) hA.pr hO.pr (0 - s) hs' (by lia);have l2:=h2.le
 let t:List Int->Bool:=fun x=>O.all fun u=>decide (by_ s x u∈A)
 obtain⟨ρ',e,a5,a6,rfl⟩:=Ft (h:=oH 2 (cN (bh 5) (cN (bh 6) qj))) (g:=tH) aj
  (fun done ρ=>∃a5 a6,ρ=[.fz (.tup (A.map aj)),.fz (.tup (O.map aj)),.fz (.int s),.fz (dU k1),.ow ((done.filter t).map aj),a5,a6])
  (L:=k2.map (·.1)) (ρ:=[.fz (.tup (A.map aj)),.fz (.tup (O.map aj)),.fz (.int s),.fz (dU k1),.ow [],.no,.no]) ⟨_,_,rfl⟩ (by
   rintro x done ρ hx hd ⟨a5,a6,rfl⟩;obtain⟨r,c,rfl⟩:=h2.gn.pr x hx;refine⟨_,_,rfl,?_,.fz (.int r),.fz (.int c),rfl⟩;have cm:dG (oH 2 (cN (bh 0) (cN (bh 1) qj))) (fun _=>.ok true) oE 2 [3,5,6,2] (fL (aJ 1) VR) [.fz (.tup (A.map aj)),.fz (.tup (O.map aj)),.fz (.int s),.fz (dU k1),.ow ((done.filter t).map aj),.fz (.int r),.fz (.int c)]=.ok (.lst (O.map fun u=>.bl (decide (by_ s [r,c] u∈A)))):=by refine abd (cs:=[.fz (dU k1),.fz (.int r),.fz (.int c),.fz (.int s)]) rfl (v_l (aH rfl) rfl) hO.pr (fun u v hu=>?_) (by lia);unfold oE;refine bM (gj (aq (bM (aH rfl) (bM (aH rfl) (aH rfl) (Mw hs2)) fO) (aq (bM (aH rfl) (bM (aH rfl) (aH rfl) (Mw hs2)) fO) aO)) (t2 _ _)) (aH rfl) ?_;rw[show D.tup [.int (r + s * u),.int (c + s * v)]=aj [r + s * u,c + s * v] from rfl,agX,m1];rfl
   have ct:(fT (fA (ao (dG (oH 2 (cN (bh 0) (cN (bh 1) qj))) (fun _=>.ok true) oE 2 [3,5,6,2] (fL (aJ 1) VR)) aR) Wa)) [.fz (.tup (A.map aj)),.fz (.tup (O.map aj)),.fz (.int s),.fz (dU k1),.ow ((done.filter t).map aj),.fz (.int r),.fz (.int c)]=.ok (t [r,c]):=ug (gj (aq cm aO) (Xl O _));have lf:=mE t done;have ld:(k2.map (·.1)).length=k2.length:=b8 ..;unfold tH;rw[List.filter_append,kC];cases h:t [r,c] with
   |true =>
    rw[h]at ct;refine rZ ct ?_;rw[show List.filter t [[r,c]]=[[r,c]] from by simp[h]];exact amR (acc:=done.filter t) (x:=[r,c]) rfl (gj (aq (aH rfl) (aq (aH rfl) aO)) (t2 _ _)) (by lia)
   |false =>
    rw[h]at ct;refine jf ct ?_;rw[show List.filter t [[r,c]]=[] from by simp[h],kq,gc];rfl)
 have lf:=mE t (k2.map (·.1));have ld:(k2.map (·.1)).length=k2.length:=b8 ..;have pf:∀ks∈(k2.map (·.1)).filter t,Pair ks:=fun ks hk=>h2.gn.pr ks (eQ.mp hk).1;have nf:((k2.map (·.1)).filter t).Nodup:=ny.filter _ h2.gn.nd;refine⟨cu ((k2.map (·.1)).filter t),?_,.sort pf nf,by rw[pN];lia,fun x=>?_⟩
 ·have run:qO (bF ["cells","piece","sign","held","told","row","column"] [.tup (A.map aj),.tup (O.map aj),.int s])=.rt (.lst ((cu ((k2.map (·.1)).filter t)).map aj)):=by
   unfold qO;refine bB (ρ1:=[.fz (.tup (A.map aj)),.fz (.tup (O.map aj)),.fz (.int s),.fz (dU k1),.no,.no,.no]) (nO (gj (aq (aH rfl) (aq (gj (aq (gj (aq cj (aq cj aO)) (t2 _ _)) aO) (ahH (by simp))) (aq cj aO))) (cC rfl e1))) ?_;refine bB (ρ1:=[.fz (.tup (A.map aj)),.fz (.tup (O.map aj)),.fz (.int s),.fz (dU k1),.ow [],.no,.no]) rfl ?_;refine bB (pD (ρ1:=[.fz (.tup (A.map aj)),.fz (.tup (O.map aj)),.fz (.int s),.fz (dU k1),.ow (((k2.map (·.1)).filter t).map aj),a5,a6]) ?_) ?_
   ·exact akp (v_l (gj (aq (aH rfl) (aq (aH rfl) (aq (bM cj (aH rfl) nP) aO))) (cC rfl e2)) agY) e
   ·show fM _ (CT 4 [.fz (.tup (A.map aj)),.fz (.tup (O.map aj)),.fz (.int s),.fz (dU k1),.ow (((k2.map (·.1)).filter t).map aj),a5,a6])=_;rw[show CT 4 [.fz (.tup (A.map aj)),.fz (.tup (O.map aj)),.fz (.int s),.fz (dU k1),.ow (((k2.map (·.1)).filter t).map aj),a5,a6]=[.fz (.tup (A.map aj)),.fz (.tup (O.map aj)),.fz (.int s),.fz (dU k1),.fz (.lst (((k2.map (·.1)).filter t).map aj)),a5,a6] from rfl];exact lK (gj (aq (aH rfl) aO) (aek (by lia) pf))
  unfold fU;rw[run];rfl
 ·rw[jY,eQ,h2.iff,kz];constructor
  ·rintro⟨⟨a,ha,u,hu,rfl⟩,h⟩;exact⟨⟨_,_,rfl⟩,fun u hu=>of_decide_eq_true (h u hu)⟩
  ·rintro⟨px,h⟩;refine⟨?_,fun u hu=>decide_eq_true (h u hu)⟩;obtain⟨u,hu⟩:=List.exists_mem_of_ne_nil _ hO.ne;refine⟨_,h u hu,u,hu,?_⟩;rw[lR px];show [c0 x,c1 x]=[c0 x + s * c0 u + (0 - s) * c0 u,c1 x + s * c1 u + (0 - s) * c1 u]
   rw[mI,mI,<- rX,<- rX,show s + (0 - s)=0 by lia,Int.zero_mul,Int.zero_mul,Int.add_zero,Int.add_zero]
theorem Ym(a t:List Int):by_ 1 a t=ad a t:=by unfold by_ ad;simp only[oC]
theorem Yn(a t:List Int):by_ (-1) a t=ad a (ng t):=by
 show [c0 a + -1 * c0 t,c1 a + -1 * c1 t]=[c0 a + -(c0 t),c1 a + -(c1 t)]
 rw[Int.neg_mul,Int.neg_mul,oC,oC]
theorem Ps.good{n:Nat}{L:KL}(h:Ps n L)(hn:n<=48):Good L:=by obtain⟨L0,e⟩:=h.ex;exact⟨.of h.pr h.nd (by rw[e];exact pH _),h.ne,cx h.le hn⟩
theorem akG{A O:KL}{b:Bool}(hA:gM A)(ha:A.length<=53)(hO:Good O)(ho:O.length<=12){z0 z1 z2 a7:Sl}:∃b7,
  (cB (mj 7 (fA (ao (fB (fA (ao (aJ 5) (ao (aJ 3) (ao (fC (.int 1)) aR))) (bH 3 bT)) oV) (ao (fA (ao (aJ 5) (ao (aJ 3) (ao (fC (.int 1)) aR))) (bH 3 fU)) aR)) vZ))
  (cB (yw (fT (aJ 6)) (mj 7 (fA (ao (fA (ao (aJ 5) (ao (aJ 3) (ao (DK (fC (.int 1))) aR))) (bH 3 fU)) (ao (fB (fA (ao (aJ 5) (ao (aJ 3) (ao (DK (fC (.int 1))) aR))) (bH 3 bT)) oV) aR)) vZ)) Ae)
  (cB (yw (rO (fT (fA (ao (fA (ao (aJ 4) (ao (aJ 3) aR)) (bH 2 nZ)) (ao (fA (ao (bZ fY (aJ 7) (fC (.int 0))) (ao (aJ 6) aR)) dH) aR)) (bH 2 cg)))) (fM (fC (.bl false))) Ae)
  (yw (rO (fT (fA (ao (fA (ao (aJ 4) (ao (aJ 3) aR)) (bH 2 oh)) (ao (fA (ao (bZ fY (aJ 7) (fC (.int 1))) (ao (aJ 6) aR)) dH) aR)) (bH 2 cg)))) (fM (fC (.bl false))) Ae))))
  [z0,z1,z2,.fz (.tup (O.map aj)),.fz (sh A b),.fz (.tup (A.map aj)),.fz (.bl b),a7]=.nx [z0,z1,z2,.fz (.tup (O.map aj)),.fz (sh A b),.fz (.tup (A.map aj)),.fz (.bl b),b7]:=by
 have hm:A.length * O.length<=53 * 12:=r8 ha ho;have hm':O.length * A.length<=12 * 53:=r8 ho ha;have eg:=ahq (b:=b) hA (by lia) hO (fun _=>by lia);have ee:=ahr (b:=b) hA (by lia) hO (fun _=>by lia);obtain⟨k1,r1,m1⟩:=uH (A:=A) (O:=O) hA.pr hO.pr 1 (by decide) (by lia);obtain⟨M1,h1,s1,l1,i1⟩:=aia hA hO 1 (.inl rfl) (by lia) (by lia);have le1:=m1.le;have lg:(gr A b O).length<=100000:=by
  cases b with
  |true=>exact cx ZW (by lia)
  |false=>exact cx (wQ _) (by rw[xZ];lia)
 have le:(ea A b O).length<=100000:=by
  cases b with
  |false=>exact cx ZW (by lia)
  |true=>exact cx (wQ _) (by rw[xZ];have:=r8 (cx (aad (O:=O)) ho) ha;lia)
 have ig:=Gx (b:=b) (Yj (b:=b) (O:=O) hA).pr lg;have ie:=Gx (b:=b) (Yk (b:=b) (O:=O) hA).pr le;have first:(mj 7 (fA (ao (fB (fA (ao (aJ 5) (ao (aJ 3) (ao (fC (.int 1)) aR))) (bH 3 bT)) oV) (ao (fA (ao (aJ 5) (ao (aJ 3) (ao (fC (.int 1)) aR))) (bH 3 fU)) aR)) vZ)) [z0,z1,z2,.fz (.tup (O.map aj)),.fz (sh A b),.fz (.tup (A.map aj)),.fz (.bl b),a7]=.nx [z0,z1,z2,.fz (.tup (O.map aj)),.fz (sh A b),.fz (.tup (A.map aj)),.fz (.bl b),.fz (.lst [.lst ((cu (k1.map (·.1))).map aj),.lst (M1.map aj)])] :=
  nO (gj (aq (v_b (gj (aq (aH rfl) (aq (aH rfl) (aq cj aO))) (cC rfl r1)) (Kl m1.gn (by lia))) (aq (gj (aq (aH rfl) (aq (aH rfl) (aq cj aO))) (cC rfl h1)) aO)) (Af (by simp)))
 have last:∀{X Y:KL},gr A b O=X->ea A b O=Y->(cB (yw (rO (fT (fA (ao (fA (ao (aJ 4) (ao (aJ 3) aR)) (bH 2 nZ)) (ao (fA (ao (bZ fY (aJ 7) (fC (.int 0))) (ao (aJ 6) aR)) dH) aR)) (bH 2 cg)))) (fM (fC (.bl false))) Ae)
  (yw (rO (fT (fA (ao (fA (ao (aJ 4) (ao (aJ 3) aR)) (bH 2 oh)) (ao (fA (ao (bZ fY (aJ 7) (fC (.int 1))) (ao (aJ 6) aR)) dH) aR)) (bH 2 cg)))) (fM (fC (.bl false))) Ae)) [z0,z1,z2,.fz (.tup (O.map aj)),.fz (sh A b),.fz (.tup (A.map aj)),.fz (.bl b),.fz (.lst [.lst (X.map aj),.lst (Y.map aj)])]=.nx [z0,z1,z2,.fz (.tup (O.map aj)),.fz (sh A b),.fz (.tup (A.map aj)),.fz (.bl b),.fz (.lst [.lst (X.map aj),.lst (Y.map aj)])]:=fun {X Y} hX hY=>by
  subst hX;subst hY;exact bB (jf (Ag (t:=true) (ug (gj (aq (gj (aq (aH rfl) (aq (aH rfl) aO)) (cC rfl eg)) (aq (gj (aq (bM (aH rfl) cj rfl) (aq (aH rfl) aO)) (t2 _ _)) aO)) (cC rfl ig)))) rH) (jf (Ag (t:=true) (ug (gj (aq (gj (aq (aH rfl) (aq (aH rfl) aO)) (cC rfl ee)) (aq (gj (aq (bM (aH rfl) cj rfl) (aq (aH rfl) aO)) (t2 _ _)) aO)) (cC rfl ie)))) rH)
 cases b with
 |false =>
  refine⟨_,bB first (bB (jf (ug (aH rfl)) rH) (last ?_ ?_))⟩
  ·refine(Yj hA).ext m1.asc fun x=>?_;rw[aps,jY,m1.iff];constructor
   ·rintro⟨a,ha,t,ht,e⟩;exact⟨a,ha,t,ht,by rw[Ym];exact e.symm⟩
   ·rintro⟨a,ha,t,ht,e⟩;exact⟨a,ha,t,ht,by rw[e,Ym]⟩
  ·refine(Yk hA).ext s1 fun x=>?_;rw[apt hO,i1];simp only[Ym]
 |true =>
  obtain⟨k2,r2,m2⟩:=uH (A:=A) (O:=O) hA.pr hO.pr (-1) (by decide) (by lia);obtain⟨M2,h2,s2,l2,i2⟩:=aia hA hO (-1) (.inr rfl) (by lia) (by lia);have le2:=m2.le;refine⟨_,bB first (bB (rZ (ug (aH rfl)) (nO (gj (aq (gj (aq (aH rfl) (aq (aH rfl) (aq (QW cj) aO))) (cC rfl h2)) (aq (v_b (gj (aq (aH rfl) (aq (aH rfl) (aq (QW cj) aO))) (cC rfl r2)) (Kl m2.gn (by lia))) aO)) (Af (by simp))))) (last ?_ ?_))⟩
  ·refine(Yj hA).ext s2 fun x=>?_;rw[apu hO,i2];simp only[Yn]
  ·refine(Yk hA).ext m2.asc fun x=>?_;rw[apv,jY,m2.iff];constructor
   ·rintro⟨a,ha,t,ht,e⟩;exact⟨a,ha,t,ht,by rw[Yn];exact e.symm⟩
   ·rintro⟨a,ha,t,ht,e⟩;exact⟨a,ha,t,ht,by rw[e,Yn]⟩
theorem ahs(c:Int)(S:Sl)(a2 a3 a4 a5 a6 a7:Sl):∃b2 b3 b4 b5 b6 b7:Sl,CQ [S,.fz (.int c),a2,a3,a4,a5,a6,a7]=.nx [S,.fz (.int c),b2,b3,b4,b5,b6,b7]:=by
 obtain⟨m0,e0⟩:=akx c;obtain⟨m1,O,e1,p1⟩:=ahm m0;obtain⟨lx,ly,m2,e2⟩:=akz m1;obtain⟨A,b,m3,e3,cA⟩:=ahn (O:=O) (N:=12) p1.pr p1.le (by decide) m2 lx ly;obtain⟨b7,e4⟩:=akG (b:=b) (.of cA.pr cA.nd cA.pw) cA.le (p1.good (by decide)) p1.le (z0:=S) (z1:=.fz (.int c)) (z2:=.ow [.int m3]) (a7:=a7);refine⟨.ow [.int m3],.fz (.tup (O.map aj)),.fz (sh A b),.fz (.tup (A.map aj)),.fz (.bl b),b7,?_⟩
 ·unfold CQ;refine bB (ρ1:=[S,.fz (.int c),.ow [.int m0],a3,a4,a5,a6,a7]) (adT (aq (aH rfl) aO) rfl e0) ?_;refine bB (ρ1:=[S,.fz (.int c),.ow [.int m1],.fz (.tup (O.map aj)),a4,a5,a6,a7]) (nR (aaV rfl rfl (Zx aO) rfl rfl rfl e1) rfl) ?_;refine bB (ρ1:=[S,.fz (.int c),.ow [.int m3],.fz (.tup (O.map aj)),.fz (sh A b),a5,a6,a7]) (nR (aaV (i:=2) (z0:=.ow [.int m1]) (z1:=.ow [.int m2]) rfl rfl (dR (iR (aH rfl)) (dR (aaV rfl rfl (Zx aO) rfl rfl rfl e2) qF)) rfl rfl rfl e3) rfl) ?_;refine bB (ρ1:=[S,.fz (.int c),.ow [.int m3],.fz (.tup (O.map aj)),.fz (sh A b),.fz (.tup (A.map aj)),.fz (.bl b),a7]) (alP (aH rfl) rfl) ?_;exact e4
theorem afb(ns:List Int)(hn:ns.length<=63):ZM [.lst (ns.map D.int)]=.ok (.bl true):=by
 have e:bF ["script","cell","left","piece","shape","cells","rest","due"] [.lst (ns.map D.int)]=[.fz (.lst (ns.map D.int)),.no,.no,.no,.no,.no,.no,.no]:=rfl;obtain⟨ρ',e1,_⟩:=wC (h:=bh 1) (g:=CQ) (fun ρ=>∃a1 a2 a3 a4 a5 a6 a7:Sl,ρ=[.fz (.lst (ns.map D.int)),a1,a2,a3,a4,a5,a6,a7]) (ds:=[.int 0]++ns.map D.int) (ρ:=[.fz (.lst (ns.map D.int)),.no,.no,.no,.no,.no,.no,.no]) ⟨_,_,_,_,_,_,_,rfl⟩ (by
  rintro d hd ρ ⟨a1,a2,a3,a4,a5,a6,a7,rfl⟩;have:∃x,d=.int x:=by
   rcases dq.mp hd with h|h
   ·exact⟨0,dE.mp h⟩
   ·obtain⟨x,_,rfl⟩:=c8.mp h;exact⟨x,rfl⟩
  obtain⟨x,rfl⟩:=this;obtain⟨b2,b3,b4,b5,b6,b7,e⟩:=ahs x (.fz (.lst (ns.map D.int))) a2 a3 a4 a5 a6 a7;exact⟨_,_,rfl,e,_,_,_,_,_,_,_,rfl⟩)
 have run:ZL [.fz (.lst (ns.map D.int)),.no,.no,.no,.no,.no,.no,.no]=.rt (.bl true):=by unfold ZL;exact bB (pD (Wd (bM (gj (aq cj aO) (Af (by simp))) (aH rfl) (aax (by rw[b8];simp only[cv,fI];lia))) e1)) (lK cj)
 unfold ZM;rw[e,run];rfl
end SQ
open PySem PySem.W PyProof.Rows
namespace PySem.W.Fast
def tw14476293531609416209:=0
def tw13824854271328354121:=0
def tw5246593602360899985:=0
def tw4505032082990428524:=0
def tw1359762052476263958:=0
def tw3927518462509362683:=0
def tw15386148285528469846:=0
def tw16711415296327147816:=0
def tw16894341876025356499:=0
def tw6643688657691512973:=0
def tw7324677299796288770:=0
def tw15166031595384147988:=0
def tw8880208294647338666:=0
def tw2188172931426735610:=0
def tw6130164405331980387:=0
def tw5747341742881120060:=0
def tw16715213494737534088:=0
def tw4655102925181224714:=0
def tw9658048383036403869:=0
def tw10869484519331269119:=0
def tw17252391501671976900:=0
def tw2420060368892136147:=0
def tw15744834569138606477:=0
def tw12855496076432171378:=0
def tw10069814088088663685:=0
def tw755182772059908386:=0
def tw4017115507934556264:=0
def tw6141195351934307700:=0
def tw11087753606817457273:=0
def tw15795174533050102431:=0
def tw14885030929416677496:=0
def tw13382778272784040582:=0
def tw6777553037327794674:=0
def tw17037210620762382340:=0
def tw15373747651346316505:=0
def tw9955935909261179172:=0
def tw3981742406419516849:=0
def tw4974687600757985709:=0
def tw9168396110537632001:=0
def tw15955015592188115157:=0
end PySem.W.Fast
theorem PySem.Challenge.cw_edgemoss_k15_grown_and_eaten_holds : PySem.Challenge.rw_edgemoss_k15_grown_and_eaten.Holds := by
 w_on;o_law;k_head;(case hw=>w_witness2)
 k_fill
 refine Vl.agR (l:=PySem.Challenge.rw_edgemoss_k15_grown_and_eaten) (k:=6) (v:=SQ.ZM) (ts:=[(66,"common_stride.<locals>.<lambda>")]) rfl rfl ⟨rfl,by decide,by decide⟩ (fun w h Y=>PySem.W.km_in_of Y) ?aT (by decide) ?aL ?aN ?aC ?aV ?aF
 case aT=>exact fun w h Y y hy=>by rw[dE.mp hy];exact PySem.W.km_tabs_of Y _ (dE.mpr rfl)
 case aL=>exact fun w=>by kernel_rfl
 case aN=>exact fun w y hy=>by rw[dE.mp hy];kernel_rfl
 case aV=>exact SQ.afb
 case aF =>
  intro w mg fa h KX G hmg;refine' SQ.all_mk (pU:=66) KX G hmg ?_ ?_ ?_ ?_ ?_ ?_ ?_ ?_ ?_ ?_ ?_ ?_ ?_ ?_ ?_ ?_ ?_ ?_ ?_ ?_ ?_ ?_ ?_ ?_ ?_ ?_ ?_ ?_ ?_ ?_ ?_ ?_ ?_ ?_ ?_ ?_ ?_ ?_ ?_ ?_ ?_ ?_ ?_ ?_ ?_ ?_ ?_ ?_ ?_ ?_ ?_ ?_ ?_ ?_ ?_ ?_ ?_ ?_ ?_ ?_ ?_ ?_ ?_ ?_ ?_ ?_ ?_ ?_ ?_ ?_ ?_ ?_ ?_ ?_ ?_ ?_ ?_ ?_ ?_ ?_ ?_ ?_ ?_ ?_ ?_ ?_ ?_ ?_ ?_ ?_ ?_ ?_ ?_ ?_ ?_ ?_ ?_ ?_ ?_ ?_ ?_ ?_ ?_ ?_ ?_ ?_ ?_ ?_ ?_ ?_ ?_ ?_ ?_ ?_
  all_goals try first|k_is|kernel_rfl
 case aC =>
  intro w y hy;rw[dE.mp hy];refine' Vl.amQ (x:="common_stride") (st:=SQ.cJ) ?a ?b ?e
  (case a=>k_is)
  (case b=>k_is)
  (case e=>kernel_rfl)
