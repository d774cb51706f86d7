import PyProof.Rows.All
import Wide.All
import OpenK.AllK
import PySem.Challenge.RW_edgemoss_k73_loose_cells_and_comers
open PySem renaming Value->aa,Addr->ae,Shared->af,Expr->ag,wpAny_bind->ah,wpAny->aw,model->ay,World->az,Heap->aE,Program->aS,wpAny_pure->aT,Around->ba,starEach->bb,Stmt->bg,eval->bj,Spec->bo,cLine->bu,SetTable->b_,intKind->cq,mainGlobals->cw,rawInt->cz,Builtin->cE,backTo->cS,IsTupleKey->da,FuncData->df,swapsWith->dS,wpAny_mono->d6,sizeLine_eq->d8,NameKind->ez,binaryOp->fx,compareOp->fy,Keyword->fE,assignEach->fF,wpAny_holding->fI,foldedSetIterable->fN,holding->gc,pyNext->gd,behindInMarks->gp,sysModules->ik,bootBuiltins->il,wpAny_newObj_type->iA,BindsTo->iX,codeAny->i4,mem_of_lookup->i6,SetTable->ja,bindL->j0,bindC->j3,callerA->j6,wpAny_setField->j8,wpAny_setState_of->kg,codeAny_builtin->ko,wpAny_call_entry->ku,wpAny_rule->kv,atKey->kz,GenState->kD,PassesOwn->kF,wpAny_passesOwn->kG,pyIter->kH,CmpOp->kK,sliceBounds->kL,attributeBase->kM,backToKw->kN,keywordEach->kP,codeAny_mono->kQ,isSubtype_type->lr,DictEntry->md,noteFrame->mf,plainId_quiet->mE,wpAny_dictEntries->m6,tupleKind->ng,standAt->nv,swapsWithSole->ny,swappedStores->nz,wpAny_Call_Name_kw->nL,wpAny_field->n5,wpAny_typeOf->oa,wpAny_askSetting->oi,wpAny_attempt->oo,wpAny_callSpecial?_slot->oq,Fin->ot,wpAny_updateSeq->ox,Str->o5,wpAny_execs_nil->o8,letOwnedTupleGo->o9,concat_meets->pd,wpAny_call->pj,carriedByValue->p_,ofAClassStatement->qa,setSearchFrom->qc,hashByValue->qf,wpAny_runValue->qi,wpAny_fieldsOf->qo,firstArgMember->qr,wpAny_isInstance->qs,updateSeq->qS,wpAny_typeNameOfWhole_keyiter->rL,wpAny_typeNameOf_keyiter->rS,wpAny_truthy_bool->sg,wpAny_standAt->si,noFill_tuple_add->sL,seq_tuple_add->sM,wpAny_throw->tz,wpAny_forIn_list->uS,wpAny_specialOf->u6,wpAny_of_eq->u_,pickOrder->ve,typeLookup_type->vj,builtinLookup_eq_fast->vk,wpAny_pyIter_slot->vn,wpAny_setEntries_of->vw,Builtin->vz,tupleKind_room_in1->wb,wpAny_dictEpoch->wc,size_of_entries->wm
open PySem.W renaming Frag->ai,Frag->c_,nsIn->dQ,mg_none_of->gT,keepIn->g9,fnOf->iq,nsIn->i9,hideAll->kC,OpenLaw->l_,kia_one->mh,findIn->nB,codeIn->nK,methodObj->o7,hideAll_get->r_,of_hideAll->se,hideAll_none->sf,callWith_K->tw,excIn->tx
open PyProof.Rows renaming Keyed->ax,arrOf->aI,wpS_bind->a_,SortSt->bq,wpS_pure->br,pendingOf->cb,elem'->de,wpS_mono->eC,seqObj->eI,wpS_forRange->eQ,SortKind->e_,failedOf->fg,wpS_get->gE,mirror->ic,wpS_modify->iN,AllBare->iS,envOfC->j4,seqObj->ky,IsTup->kB,envOfC->kX,wpS_lift->lx,IntsAre->l5,setPending->mT,reverseSlice'->oz,minRun'->oP,callWith_type1->sC,listUpdate_at->vS,get?_update_seq->vT,seqEpoch_at->v7,boot_sorted->v_
open Bool renaming false_eq_true->bz,not_true->eB,or_eq_true->j_,and_eq_true->kT,not_false->lh,and_false->nV,and_true->ph,false_ne_true->sj,false_and->sm,or_self->u5
open Nat renaming le_refl->bE,ne_of_lt->cv,le_trans->cx,lt_of_lt_of_le->d5,zero_le->eJ,lt_irrefl->f_,le_of_lt->gm,zero_add->gS,lt_of_le_of_lt->ir,mod_eq_of_lt->iE,lt_succ_of_lt->j9,succ_mul->kA,pow_succ->k7,add_zero->k9,ne_of_gt->lT,mod_lt->mv,add_assoc->oD,le_succ->oQ,mul_assoc->pM,add_mul_mod_self_left->pS,mod_eq_sub_mod->pT,le_add_right->qh,lt_or_ge->q8,le_of_eq->sT,le_max_right->td,min_self->tf,add_mod->tJ,mul_mod->tP,lt_trans->t_,succ_ne_self->vi,lt_succ_self->vx,reduceAdd->wo,reduceSub->wq,reduceEqDiff->wt,reduceLeDiff->w6
open PySem.Heap renaming lt_size->bP,get?_push_of_some->cy,get?_push_size->dA,SameBut->ef,get?_update_self->hV,get?_update_other->i8,get?_update_ne->lz,size_push->pk,size_update->rj,NotedW->tm
open List renaming range->bS,map_cons->bX,length_cons->ck,mem_cons->cm,length_map->cn,getElem?_set_ne->cK,getElem?_map->di,size_toArray->dk,getElem?_eq_some_iff->dm,length_append->dn,mem_append->dt,getElem?_set_self->dy,mem_map->dC,append_nil->dP,length_nil->d4,getElem?_eq_getElem->d9,length_range->d_,filter_cons->eD,append_assoc->eP,mem_cons_self->eR,getElem?_append_left->eT,getElem_mem->eW,mem_filter->fm,mem_range->fq,mem_cons_of_mem->fv,mem_append_right->fw,replicate->fR,pairwise_cons->f7,not_mem_nil->f9,getElem?_append_right->gr,map_nil->gu,getD_eq_getElem?_getD->gx,pairwise_append->gy,map_map->gz,mem_append_left->g7,nodup_cons->g_,Perm->h_,mem_singleton->ie,nil_append->ij,length->ip,map_append->iL,length_filter_le->iO,filter->iP,length_take->i5,mem_of_getElem?->i7,drop_eq_getElem_cons->i_,mem_iff_getElem?->jn,find?_cons->jv,mem_filterMap->jI,getElem?_replicate->j5,lookup_cons->j7,perm_append_comm->kf,toArray->kx,foldl_cons->kR,lookup->kS,pairwise_iff_getElem->k_,ext_getElem->ls,Nodup->lI,getElem?_take_of_lt->l4,length_drop->l6,drop_eq_nil_of_le->me,all_eq_true->ml,mem_iff_getElem->mw,take_append_drop->my,map_congr_left->mB,length_eq_zero_iff->mM,mem_map_of_mem->m_,filterMap_cons->nh,take_sublist->nE,length_replicate->nI,Pairwise->nN,range_succ_eq_map->nS,mem_of_mem_take->n6,filterMap_cons_some->n9,getD->oj,getElem?_drop->oC,cons_append->oI,set_cons_zero->o3,filter_nil->o4,eraseIdx_cons_succ->qk,getElem?_take_eq_none->q9,mem_reverse->rf,set_cons_succ->rh,any_cons->rn,getElem?_cons_zero->rV,getElem?_cons_succ->rX,of_mem_zip->sF,drop_length->tj,take_of_length_le->ue,mem_of_mem_drop->ui,map_take->uj,map_drop->uk,drop_sublist->uv,map_filterMap->uA,filter_sublist->uB,filterMap_cons_none->uC,nodup_nil->vb,isEmpty_nil->vt,ext_getElem?->vy,filter_append->w8,filter_filter->w9
open PySem.PassesOwn renaming never->dq
open Ne renaming symm->dE
open Option.some renaming inj->et
open PySem.Obj renaming mapSeq->eA,mapFields->hG,data_mapFields->kU,isFreed_of_fields->nX
open Int renaming le_trans->eL,emod_nonneg->gf,le_of_lt->gi,le_refl->gL,emod_lt_of_pos->iF,toNat_natCast->mo,not_lt->oB,fdiv_eq_ediv_of_nonneg->sD
open False renaming elim->eM
open Array renaming getElem?_eq_some_iff->fS,size_push->gN,getD->hZ,getElem?_toList->jb,length_toList->jS,toList_append->ka,getD_eq_getD_getElem?->ke,size_append->ly,getElem?_eq_getElem->mS,toList_inj->pV,toList_push->p7,replicate->p9,getElem?_eq_none->qq,perm_iff_toList_perm->qV,size_extract->q0,getElem?_setIfInBounds_ne->tq
open List.Pairwise renaming sublist->kc
open PySem.Heap.SameBut renaming update->ki
open PySem.F renaming called_set->kq,excBase_ValueError->nc,slot_dict_keyiterator_next->oS,plain_list_iadd->qA,slot_tuple_add->sN,entry_tuple_add->sP,args_tuple_add_2->sQ,plainAttrs_list->wa,slot_dict_len->we
open PySem.Around renaming under_plainId->lj
open PySem.Value renaming isInt_shape->lL
open PySem.SeqAt renaming EqAt->lS
open PySem.Builtin.Frozenset renaming updateFrom->mI
open PySem.Str renaming ofString->mP
open Option renaming map_some->n_,getD_some->og,map_eq_some_iff->p8,bind_some->r8
open List.Perm renaming append_left->om,of_eq->oy,append_right->vE
open PySem.Paired renaming length->o6
open PySem.Builtin renaming bitAnd->o_
open PySem.Builtin.List renaming listTooLong->pf,listLengthHint->qv,listExtendWith->qB,listSameRef->qE
open PyProof.Rows.SortSt renaming mk'->q_
open PySem.Calls renaming evalArgs_plain->sR
open Function renaming comp_def->s_
open Prod.mk renaming injEq->t9
open PyProof.Rows.F renaming plain_set_update_loop->u7
open PySem.Shared renaming TypeIs->va
open PySem.pickOrder renaming go->vc
open Classical renaming choose->vF
set_option Elab.async false
set_option linter.all false
set_option maxRecDepth 100000
set_option maxHeartbeats 0
noncomputable abbrev LL:=List (List Int)
noncomputable abbrev qx(x:o5):Prop:=(x == (o5.ofString "__debug__"))=false
noncomputable abbrev GP(x:o5):Prop:=(x == (o5.ofString "__classdict__"))=false
namespace L2
open PySem PySem.Spec PyProof.Rows
noncomputable abbrev Gy:=Sum Int Str
noncomputable def abF:Gy->aa->Bool
 | .inl k,v=>aa.isInt k v
 | .inr x,v=>aa.isStrOf x v
noncomputable def ahY(w:az):Gy->Int
 | .inl k=>hashInt k
 | .inr x=>hashStr w x
theorem dG:∀{k:Gy}{v:aa},abF k v=true->(∃i t,k=Sum.inl i/\v=aa.int i t)∨(∃x t,k=Sum.inr x/\v=aa.str x t)
 | .inl i,v,h=>by obtain⟨t,e⟩:=lL (k:=i) (v:=v) h;exact .inl ⟨i,t,rfl,e⟩
 | .inr x,v,h=>by obtain⟨t,e⟩:=aa.isStrOf_shape (x:=x) (v:=v) h;exact .inr ⟨x,t,rfl,e⟩
theorem acC(a b:Int):decide ((Sum.inl a:Gy)=Sum.inl b)=(a == b):=by
 by_cases e:a=b
 ·subst e;simp
 ·have h:¬(Sum.inl a:Gy)=Sum.inl b:=fun q=>e (Sum.inl.inj q);rw[decide_eq_false h];exact(beq_eq_false_iff_ne.mpr e).symm
theorem acD(a b:Str):decide ((Sum.inr a:Gy)=Sum.inr b)=decide (a=b):=by
 by_cases e:a=b
 ·subst e;simp
 ·have h:¬(Sum.inr a:Gy)=Sum.inr b:=fun q=>e (Sum.inr.inj q);rw[decide_eq_false h,decide_eq_false e]
theorem acE(a:Int)(b:Str):decide ((Sum.inl a:Gy)=Sum.inr b)=false:=decide_eq_false (fun q=>nomatch q)
theorem acF(a:Str)(b:Int):decide ((Sum.inr a:Gy)=Sum.inl b)=false:=decide_eq_false (fun q=>nomatch q)
noncomputable def Nt(prog:aS)(w:az):PySem.KeyKind prog w Gy where
  is:=abF
  hash:=ahY w
  inj:=fun v a b ha hb=>by
    rcases dG ha with ⟨i,t,rfl,rfl⟩|⟨x,t,rfl,rfl⟩
    . rcases dG hb with ⟨j,u,rfl,e⟩|⟨y,u,rfl,e⟩
      . injection e with e1 _;rw[e1]
      . exact nomatch e
    . rcases dG hb with ⟨j,u,rfl,e⟩|⟨y,u,rfl,e⟩
      . exact nomatch e
      . injection e with e1 _;rw[e1]
  byValue := fun k v h => by rcases dG h with ⟨i,t,rfl,rfl⟩|⟨x,t,rfl,rfl⟩ <;> rfl
  pyHash:=fun hv h=>by
    rcases dG hv with ⟨i,t,rfl,rfl⟩|⟨x,t,rfl,rfl⟩
    . exact wpAny_pyHash_int h
    . exact wpAny_pyHash_str h
  eqBool:=fun hu hv h=>by
    rcases dG hu with ⟨i,t,rfl,rfl⟩|⟨x,t,rfl,rfl⟩
    . rcases dG hv with ⟨j,u,rfl,rfl⟩|⟨y,u,rfl,rfl⟩
      . rw[acC]at h;exact wpAny_eqBool_int h
      . rw[acE]at h;exact lS.int_str i t y u _ _ _ _ h
    . rcases dG hv with ⟨j,u,rfl,rfl⟩|⟨y,u,rfl,rfl⟩
      . rw[acF]at h;exact lS.str_int x t j u _ _ _ _ h
      . rw[acD]at h;exact wpAny_eqBool_str h
  «strs»:=fun k x t v h=>by
    rcases dG h with ⟨i,u,rfl,e⟩|⟨y,u,rfl,e⟩
    . exact nomatch e
    . injection e with e1 _
      subst e1;cases v <;> rfl
inductive V where
 |non|bl (b:Bool)|int (i:Int)|str (x:Str)|byt (b:Array UInt8)|flt (b:UInt64)|ref (a:ae)|ty (n:String)
 deriving DecidableEq
noncomputable def RelV:V->aa->Prop
 | .non,u=>u=aa.none
 | .bl b,u=>u=aa.bool b
 | .int i,u=>∃t,u=aa.int i t
 | .str x,u=>∃t,u=aa.str x t
 | .byt b,u=>∃t,u=aa.bytes b t
 | .flt b,u=>∃t,u=aa.float b t
 | .ref a,u=>u=aa.ref a
 | .ty n,u=>u=aa.type n
noncomputable abbrev Vals:List V->List aa->Prop:=Paired RelV
theorem Vals.length{xs:List V}{us:List aa}(r:Vals xs us):xs.length=us.length:=o6 r
theorem Vals.get:∀{xs:List V}{us:List aa}{i:Nat}{x:V},Vals xs us->xs[i]?=some x->∃u,us[i]?=some u/\RelV x u
 |_,_,_,_,.nil,e=>by simp at e
 |_,_,0,_,.cons r _,e=>by simp at e;subst e;exact⟨_,rfl,r⟩
 |_,_,i + 1,x,.cons _ t,e=>by obtain⟨u,h1,h2⟩:=Vals.get (i:=i) (x:=x) t (by simpa using e);exact⟨u,by simpa using h1,h2⟩
theorem Vals.append:∀{xs ys:List V}{us ws:List aa},Vals xs us->Vals ys ws->Vals (xs++ys) (us++ws)
 |_,_,_,_,.nil,s=>s
 |_,_,_,_,.cons r t,s=>.cons r (Vals.append t s)
theorem Vals.take:∀{xs:List V}{us:List aa}(n:Nat),Vals xs us->Vals (xs.take n) (us.take n)
 |_,_,0,_=>.nil
 |_,_,_ + 1,.nil=>.nil
 |_,_,n + 1,.cons r t=>.cons r (Vals.take n t)
theorem Vals.drop:∀{xs:List V}{us:List aa}(n:Nat),Vals xs us->Vals (xs.drop n) (us.drop n)
 |_,_,0,r=>r
 |_,_,_ + 1,.nil=>.nil
 |_,_,n + 1,.cons _ t=>Vals.drop n t
theorem Vals.none_of:∀{xs:List V}{us:List aa}{i:Nat},Vals xs us->xs[i]?=none->us[i]?=none:=fun {xs us i} r e=>by have h1:=r.length;have h2:xs.length<=i:=List.getElem?_eq_none_iff.mp e;exact List.getElem?_eq_none_iff.mpr (by lia)
noncomputable def afI:Option V->Option aa->Prop
 |some v,some u=>RelV v u
 |none,none=>True
 |_,_=>False
noncomputable def KV{κ:Type}:List (κ×V)->List (κ×aa)->Prop:=Paired fun(p:κ×V) (q:κ×aa)=>p.1=q.1/\RelV p.2 q.2
noncomputable def kV:Gy->V
 | .inl i=>.int i
 | .inr x=>.str x
inductive HO where
 /-- a list -/
 |lst (xs:List V)
 /-- a tuple (never changes) -/
 |tup (xs:List V)
 /-- a dict whose keys are ints and texts;one whose keys are tuples of ints and texts (the empty one is both) -/
 |dK (kvs:List (Gy×V))|dT (kvs:List (List Gy×V))
 /-- a set of ints: its members,its size -/
 |set (S:Int->Bool) (n:Nat)
 /-- an instance of the class at C,its dict at dx,its attributes -/
 |ins (C dx:ae) (fs:List (Str×V))
 /-- the dict of the instance at x -/
 |own (x:ae)
 /-- the dict of an exception -/
 |xd (fs:List (Str×V))
 /-- a bound method,f of x -/
 |met (f x:ae)
 /-- a range object lo,lo + 1,.. below hi -/
 |rng (lo hi:Int)
 /-- a thing that is known to the object (the script;a dict while a loop walks it): read,never written while it is so -/
 |Cd (o:Obj) (u:HO)
 /-- a code object's table -/
 |tbl (ps:Array aa)
 |tab (q:Str)|Sq (q:Str)
 /-- any other thing,by what is true of its one object (a def of one's own: Qt a S n:=HO.ext fun h=>..) -/
 |ext (φ:aE->Prop)
noncomputable abbrev Hp:=ae->Option HO
noncomputable def upd(H:Hp)(a:ae)(o:HO):Hp:=fun b=>if b=a then some o else H b
theorem aZ{H:Hp}{a:ae}{o:HO}:upd H a o a=some o:=by unfold upd;rw[if_pos rfl]
theorem aW{H:Hp}{a b:ae}{o:HO}(h:b≠a):upd H a o b=H b:=by unfold upd;rw[if_neg h]
theorem aR{H:Hp}{a b:ae}{o:HO}(h:H a=some o)(h':H b=none):a≠b:=by intro e;subst e;rw[h]at h';cases h'
section
variable(P:aS)(w:az)
noncomputable def gq(H:Hp)(h:aE)(a:ae):HO->Prop
 | .lst xs=>xs.length<=sizeLine/\∃(its:List aa) (n:Nat),Vals xs its/\h.get? a=some { cls:=.type "list",data:=.seq its.toArray n }
 | .tup xs=>xs.length<=sizeLine/\∃its:List aa,Vals xs its/\kB h a its.toArray
 | .dK kvs=>kvs.length<=sizeLine/\(a == ik)=false/\∃vs,KV kvs vs/\h.DictOf (Nt P w) a vs
 | .dT kvs=>kvs.length<=sizeLine/\(a == ik)=false/\∃xs:List (List Gy×ae×aa),
   Paired (fun(p:List Gy×V) (q:List Gy×ae×aa)=>p.1=q.1/\H q.2.1=some (.tup (p.1.map kV))/\RelV p.2 q.2.2) kvs xs /\
   ∃o es ep,h.get? a=some o/\o.ExactDict/\o.data=.dict es ep/\es.toList=xs.map (entryOfKey (ng (Nt P w)))/\(xs.map (·.1)).Nodup
 | .set S n=>h.SetOf (cq P w) a S n
 | .ins C dx fs=>H dx=some (.own a)/\fs.length<=1000/\dx≠a/\h.get? a=some (PySem.W.instObj C dx) /\
   ∃mA,h.Ns1 dx mA/\(∀f,afI (fs.lookup f) (mA f))/\PySem.Within mA (fs.map (·.1))
 | .own _=>∃o,h.get? a=some o
 | .xd fs=>∃mA,h.Ns1 a mA/\∀f,afI (fs.lookup f) (mA f)
 | .rng lo hi=>∃t u v,h.get? a=some { cls:=.type "range",data:=.fields #[.int lo t,.int hi u,.int 1 v] }
 | .Cd o u=>h.get? a=some o/\gq H h a u
 | .tbl ps=>h.get? a=some { cls:=.none,data:=.fields ps }
 | .tab q=>∃ps:Array aa,h.get? a=some { cls:=.none,data:=.fields ps }/\TriplesOk ps.toList/\∀pos v,codeAmong pos ps.toList=some v->∃c,v=.ref c/\H c=some (.Sq q)
 | .Sq q=>∃o vs t,h.get? a=some o/\o.data=.fields vs/\vs[1]?=some (.str q t)
 | .met f x=>h.get? a=some (o7 (.ref f) (.ref x))
 | .ext φ=>φ h/\(∃o,h.get? a=some o)/\∀h1 h2:aE,φ h1->(∀o,h1.get? a=some o->h2.get? a=some o)->φ h2
noncomputable def xK(H:Hp)(h:aE):Prop:=∀a o,H a=some o->gq P w H h a o
end
section
variable{P:aS}{w:az}{H H':Hp}{h h':aE}{a:ae}{o:HO}
theorem gq.lt(x:gq P w H h a o):a < h.objs.size:=by
 cases o with
 |lst xs=>obtain⟨_,_,_,_,e⟩:=x;exact bP e
 |tup xs=>obtain⟨_,_,_,p⟩:=x;exact p.lt
 |dK kvs=>obtain⟨_,_,_,_,o,_,_,e,_⟩:=x;exact bP e
 |dT kvs=>obtain⟨_,_,_,_,o,_,_,e,_⟩:=x;exact bP e
 |set S n=>obtain⟨o,_,_,_,e,_⟩:=x;exact bP e
 |ins C dx fs=>obtain⟨_,_,_,e,_⟩:=x;exact bP e
 |own y=>obtain⟨_,e⟩:=x;exact bP e
 |xd fs=>obtain⟨_,⟨_,_,_,e,_⟩,_⟩:=x;exact bP e
 |rng lo hi=>obtain⟨_,_,_,e⟩:=x;exact bP e
 |Cd ob u=>obtain⟨e,_⟩:=x;exact bP e
 |tbl ps=>exact bP (show h.get? a=some _ from x)
 |tab q=>obtain⟨_,e,_⟩:=x;exact bP e
 |Sq q=>obtain⟨_,_,_,e,_⟩:=x;exact bP e
 |met f y=>exact bP (show h.get? a=some _ from x)
 |ext φ=>obtain⟨_,⟨_,e⟩,_⟩:=x;exact bP e
theorem Paired.acG{α β:Type}{F G:α->β->Prop}:∀{l₁:List α}{l₂:List β},Paired F l₁ l₂->(∀a b,F a b->G a b)->Paired G l₁ l₂
 |_,_,.nil,_=>.nil
 |_,_,.cons r t,f=>.cons (f _ _ r) (Paired.acG t f)
theorem gq.stay(x:gq P w H h a o)(k:∀b u,(b=a∨H b=some (.own a))->h.get? b=some u->h'.get? b=some u)
  (ho:∀b,H b=some (.own a)->H' b=some (.own a)) (ht:∀b xs,H b=some (.tup xs)->H' b=some (.tup xs)) (aia:∀b q,H b=some (.Sq q)->H' b=some (.Sq q)):gq P w H' h' a o:=by
 induction o with
 |lst xs=>obtain⟨z,its,n,r,e⟩:=x;exact⟨z,its,n,r,k _ _ (.inl rfl) e⟩
 |tup xs=>obtain⟨z,its,r,ob,e,c⟩:=x;exact⟨z,its,r,ob,k _ _ (.inl rfl) e,c⟩
 |dK kvs=>obtain⟨z,y,vs,r,ob,es,ep,e,c⟩:=x;exact⟨z,y,vs,r,ob,es,ep,k _ _ (.inl rfl) e,c⟩
 |dT kvs =>
  obtain⟨z,y,xs,r,ob,es,ep,e,c⟩:=x;exact⟨z,y,xs,Paired.acG r fun p q z=>⟨z.1,ht _ _ z.2.1,z.2.2⟩,ob,es,ep,k _ _ (.inl rfl) e,c⟩
 |set S n=>obtain⟨ob,es,ep,t,e,c⟩:=x;exact⟨ob,es,ep,t,k _ _ (.inl rfl) e,c⟩
 |ins C dx fs =>
  obtain⟨d,z,ne,e,mA,⟨od,es,ep,e2,c⟩,r⟩:=x;exact⟨ho _ d,z,ne,k _ _ (.inl rfl) e,mA,⟨od,es,ep,k _ _ (.inr d) e2,c⟩,r⟩
 |own y=>obtain⟨ob,e⟩:=x;exact⟨ob,k _ _ (.inl rfl) e⟩
 |xd fs=>obtain⟨mA,⟨od,es,ep,e,c⟩,r⟩:=x;exact⟨mA,⟨od,es,ep,k _ _ (.inl rfl) e,c⟩,r⟩
 |rng lo hi=>obtain⟨t,u,v,e⟩:=x;exact⟨t,u,v,k _ _ (.inl rfl) e⟩
 |Cd ob u ih=>obtain⟨e,q⟩:=x;exact⟨k _ _ (.inl rfl) e,ih q⟩
 |tbl ps =>
  have e:h.get? a=some { cls:=.none,data:=.fields ps }:=x;show h'.get? a=some { cls:=.none,data:=.fields ps };exact k a _ (.inl rfl) e
 |tab q =>
  obtain⟨ps,e,t,c⟩:=x;exact⟨ps,k _ _ (.inl rfl) e,t,fun pos v z=>let ⟨c',e1,e2⟩:=c pos v z;⟨c',e1,aia _ _ e2⟩⟩
 |Sq q=>obtain⟨o,vs,t,e,r⟩:=x;exact⟨o,vs,t,k _ _ (.inl rfl) e,r⟩
 |met f y =>
  have e:h.get? a=some (o7 (.ref f) (.ref y)):=x;show h'.get? a=some (o7 (.ref f) (.ref y));exact k a _ (.inl rfl) e
 |ext φ=>obtain⟨p,⟨o,e⟩,st⟩:=x;exact⟨st _ _ p fun o q=>k _ _ (.inl rfl) q,⟨o,k _ _ (.inl rfl) e⟩,st⟩
theorem xK.lt(x:xK P w H h)(e:H a=some o):a < h.objs.size:=(x a o e).lt
theorem xK.fresh(x:xK P w H h)(e:h.objs.size<=a):H a=none:=by
 cases q:H a with
 |none=>rfl
 |some u=>exact absurd (d5 (x.lt q) e) (f_ _)
theorem xK.kept(x:xK P w H h)(k:∀b u,h.get? b=some u->h'.get? b=some u):xK P w H h':=fun a o e =>
 (x a o e).stay (fun b u _ q=>k b u q) (fun _ q=>q) (fun _ _ q=>q) fun _ _ q=>q
theorem xK.laid(x:xK P w H h)(k:∀b u,h.get? b=some u->h'.get? b=some u)(hp:h.objs.size<=a)(new:gq P w (upd H a o) h' a o):xK P w (upd H a o) h':=fun b u e=>by
 have hn:=x.fresh hp;by_cases hb:b=a
 ·subst hb;rw[aZ]at e;cases e;exact new
 ·rw[aW hb]at e;exact(x b u e).stay (fun c v _ q=>k c v q) (fun c q=>by rw[aW (aR q hn)];exact q) (fun c xs q=>by rw[aW (aR q hn)];exact q) fun c xs q=>by rw[aW (aR q hn)];exact q
end
noncomputable def Rd(H:Hp)(a:ae)(u:HO):Prop:=H a=some u∨∃o,H a=some (.Cd o u)
theorem Rd.ok{P:aS}{w:az}{H:Hp}{h:aE}{a:ae}{u:HO}(r:Rd H a u)(x:xK P w H h):gq P w H h a u:=by
 rcases r with r|⟨o,r⟩
 ·exact x a u r
 ·obtain⟨_,q⟩:=x a _ r;exact q
noncomputable def Mut:Option HO->Prop
 |some (.lst _)=>True
 |some (.dK _)=>True
 |some (.dT _)=>True
 |some (.set _ _)=>True
 |some (.ins _ _ _)=>True
 |some (.ext _)=>True
 |some (.tab _)=>True
 |_=>False
section
variable{P:aS}{w:az}{H:Hp}{h h':aE}{x e:ae}{o':HO}
theorem xK.write(ok:xK P w H h)(mu:Mut (H x))(he:e=x∨H e=some (.own x))(k:∀b u,b≠e->h.get? b=some u->h'.get? b=some u)(heo:∃u,h'.get? e=some u)
  (new:gq P w (upd H x o') h' x o'):xK P w (upd H x o') h':=fun b u q=>by
 have afJ:∀c y,H c=some (.own y)->c≠x:=fun c y r z=>by subst z;rw[r]at mu;exact mu
 have aib:∀c xs,H c=some (.tup xs)->c≠x:=fun c xs r z=>by subst z;rw[r]at mu;exact mu
 have aic:∀c q,H c=some (.Sq q)->c≠x:=fun c q r z=>by subst z;rw[r]at mu;exact mu
 by_cases hb:b=x
 ·subst hb;rw[aZ]at q;cases q;exact new
 ·rw[aW hb]at q;by_cases hbe:b=e
  ·have q':H b=some (.own x):=by
    rcases he with z|z
    ·exact absurd (hbe.trans z) hb
    ·rw[hbe];exact z
   rw[q]at q';cases q';obtain⟨v,hv⟩:=heo;exact⟨v,by rw[hbe];exact hv⟩
  ·refine(ok b u q).stay (fun c v hc r=>k c v ?_ r) (fun c r=>by rw[aW (afJ c b r)];exact r) (fun c xs r=>by rw[aW (aib c xs r)];exact r) fun c q r=>by rw[aW (aic c q r)];exact r
   rcases hc with rfl|hc
   ·exact hbe
   ·rintro rfl;rcases he with z|z
    ·exact afJ c b hc z
    ·rw[hc]at z;cases z;exact hb rfl
end
structure Un (fs ex:List ae)(H H':Hp)(h h':aE):Prop where
 keep:∀b o,h.get? b=some o->H b=none->b∉fs->b∉ex->h'.get? b=some o
 slot:∀b o,h.get? b=some o->H b=none->b∈fs->b∉ex->∃sl,h'.get? b=some { o with slots:=sl }
 free:∀b o,h.get? b=some o->H b=none->b∉ex->H' b=none
 there:∀b o,h.get? b=some o->b∉ex->∃o',h'.get? b=some o'
 tups:∀b xs,H b=some (.tup xs)->H' b=some (.tup xs)
 yG:∀b o u,H b=some (.Cd o u)->H' b=some (.Cd o u)
 Bg:∀b ps,H b=some (.tbl ps)->∃more,H' b=some (.tbl (ps++more))
section
variable{fs fs' ex ex':List ae}{H H1 H2:Hp}{h h1 h2 h':aE}{a x e:ae}{o:HO}
theorem Un.any(u:Un fs ex H H1 h h1){b:ae}{ob:Obj}(q:h.get? b=some ob)(n:H b=none)(hx:b∉ex):∃sl,h1.get? b=some { ob with slots:=sl }:=by
 by_cases hb:b∈fs
 ·exact u.slot b ob q n hb hx
 ·exact⟨ob.slots,u.keep b ob q n hb hx⟩
theorem Un.kept(k:∀b u,h.get? b=some u->h'.get? b=some u):Un fs ex H H h h' :=
 ⟨fun b ob q _ _ _=>k b ob q,fun b ob q _ _ _=>⟨ob.slots,k b ob q⟩,fun _ _ _ n _=>n,fun b ob q _=>⟨ob,k b ob q⟩,fun _ _ q=>q,fun _ _ _ q=>q,fun _ ps q=>⟨#[],by rw[q];simp⟩⟩
theorem Un.refl:Un fs ex H H h h:=Un.kept fun _ _ q=>q
theorem Un.laid(k:∀b u,h.get? b=some u->h'.get? b=some u)(hp:h.objs.size<=a)(hn:H a=none):Un fs ex H (upd H a o) h h' where
 keep:=fun b u q _ _ _=>k b u q
 slot:=fun b u q _ _ _=>⟨u.slots,k b u q⟩
 free:=fun b u q n _=>by rw[aW (cv (d5 (bP q) hp))];exact n
 there:=fun b u q _=>⟨u,k b u q⟩
 tups:=fun b xs q=>by rw[aW (aR q hn)];exact q
 yG:=fun b u xs q=>by rw[aW (aR q hn)];exact q
 Bg:=fun b ps q=>⟨#[],by rw[aW (aR q hn),q];simp⟩
theorem Un.write(mu:Mut (H x))(he:e=x∨H e=some (.own x))(k:∀b u,b≠e->h.get? b=some u->h'.get? b=some u)(heo:∃u,h'.get? e=some u):Un fs ex H (upd H x o) h h':=by
 have hx:∀b,H b=none->b≠x:=fun b n z=>by subst z;rw[n]at mu;exact mu
 have hb:∀b,H b=none->b≠e:=fun b n z=>by
  subst z;rcases he with r|r
  ·exact hx b n r
  ·rw[n]at r;cases r
 have hm:∀b u,H b=some u->¬Mut (some u)->b≠x:=fun b u q nm z=>by subst z;rw[q]at mu;exact nm mu
 refine⟨fun b u q n _ _=>k b u (hb b n) q,fun b u q n _ _=>⟨u.slots,k b u (hb b n) q⟩,fun b u q n _=>by rw[aW (hx b n)];exact n,fun b u q _=>?_,
  fun b xs q=>by rw[aW (hm b _ q fun z=>z)];exact q,fun b u xs q=>by rw[aW (hm b _ q fun z=>z)];exact q,fun b ps q=>⟨#[],by rw[aW (hm b _ q fun z=>z),q];simp⟩⟩
 by_cases hbe:b=e
 ·subst hbe;exact heo
 ·exact⟨u,k b u hbe q⟩
end
noncomputable def trk(h:aE)(H:Hp):List ae:=(bS h.objs.size).filter fun a=>(H a).isSome
noncomputable def Dw(h:aE)(H:Hp):aE:=kC h (trk h H)
theorem Qu(h:aE)(H:Hp):(Dw h H).objs.size=h.objs.size:=PySem.W.hideAll_size _ _
theorem Ss{h:aE}{H:Hp}{b:ae}{o:Obj}(e:h.get? b=some o)(n:H b=none):(Dw h H).get? b=some o :=
 r_ _ e fun hm=>by have q:(H b).isSome=true:=(fm.mp hm).2;rw[n]at q;simp at q
theorem Zi{h:aE}{H:Hp}{b:ae}{o:Obj}(e:(Dw h H).get? b=some o):h.get? b=some o/\H b=none:=by
 have e':h.get? b=some o:=se (trk h H) e;refine⟨e',?_⟩;cases q:H b with
 |none=>rfl
 |some x =>
  have hm:b∈trk h H:=fm.mpr ⟨fq.mpr (bP e'),by simp[q]⟩;have z:(Dw h H).get? b=none:=sf (trk h H) hm;rw[z]at e;cases e
noncomputable def Nu(g h:aE)(L:ae):List (ae×Obj):=(bS h.objs.size).filterMap fun a=>if a=L∨(g.get? a).isSome=true then none else (h.get? a).map fun o=>(a,o)
theorem GQ{g h:aE}{L a:ae}{o:Obj}(h1:a≠L)(h2:g.get? a=none)(h3:h.get? a=some o):(a,o)∈Nu g h L :=
 jI.mpr ⟨a,fq.mpr (bP h3),by simp[h1,h2,h3]⟩
noncomputable def rest(g h:aE)(L d:ae):List (ae×Obj):=(Nu g h L).filter fun p=>decide (p.1≠d)
theorem yH{g h:aE}{L d a:ae}{o:Obj}(h1:a≠L)(h2:g.get? a=none)(h3:h.get? a=some o)(h4:a≠d):(a,o)∈rest g h L d :=
 fm.mpr ⟨GQ h1 h2 h3,decide_eq_true h4⟩
structure Mod (K:ai)(mg:Str->Option aa)(base:aE):Prop where
 RN:K.In base
 glob:base.Ns cw mg
 blt:∃mb,base.Ns builtinsNs mb/\∀x:Str,x≠"__name__"->mb x=il x
 nolimit:base.NoLimit
 bm:∃bm ob,mg "__builtins__"=some (.ref bm)/\bm≠builtinsNs/\base.get? bm=some ob/\ob.cls=.type "module"/\ob.dict=some builtinsNs/\ob.data=.plain
structure Cx where
 prog:aS
 w:az
 K:ai
 mg:Str->Option aa
 base:aE
 A:ba
 N:List Str
 s₀:af
 H₀:Hp
 env:Env
 outer:List Env
 stack:List Env
 ex:List ae
 fn:Str->Bool
 calm:Bool
 pn:List (ae×Obj)
 xe:aa->af->Prop
noncomputable def uO(l:List Env):List ae:=l.filterMap (·.frame)
noncomputable abbrev Cx.fs(X:Cx):List ae:=uO X.outer
noncomputable def Gz(sc:Scope)(x:Str):Prop:=sc.names.lookup x=some .local∨sc.names.lookup x=some .cell∨sc.names.lookup x=some .free
noncomputable def Kg(sc:Scope)(x:Str):Prop:=sc.names.lookup x=some .local∨sc.names.lookup x=some .cell
noncomputable def aie(env:Env)(h:aE)(m:Str->Option aa)(x:Str)(u:aa):Prop :=
 (env.kindOf x=some .local/\m x=some u)∨((env.kindOf x=some .cell∨env.kindOf x=some .free)/\∃c,env.cells.lookup x=some c/\h.IsCell c (some u))
structure Cx.Ok (X:Cx):Prop where
 mod:Mod X.K X.mg X.base
 kind:X.env.scope.kind=.function
 glob:X.env.globals=cw
 blt:X.env.builtins=builtinsNs
 above:X.s₀.heap.objs.size<=X.env.locals
 inj:∀x y c,X.env.cells.lookup x=some c->X.env.cells.lookup y=some c->x=y
 has:∀x,(X.env.kindOf x=some .cell∨X.env.kindOf x=some .free)->∃c,X.env.cells.lookup x=some c
 cab:∀x c,X.fn x=true->X.env.cells.lookup x=some c->X.s₀.heap.objs.size<=c
 hd:X.calm=true->X.A.handled=none
 frames:X.A.frames=some X.stack
 stk:X.stack=X.outer∨(X.stack=X.env::X.outer/\X.env.frame=some X.env.locals)
 exf:∀b∈X.ex,b≠X.env.locals/\∀x c,X.env.cells.lookup x=some c->c≠b
 bs:∀b o,X.base.get? b=some o->X.s₀.heap.get? b=some o/\X.H₀ b=none
 bsz:X.base.objs.size<=X.s₀.heap.objs.size
 Qv:∀b o,X.base.get? b=some o->b∉X.ex
 Zj:∀b∈X.ex,b∉X.fs
 yI:X.s₀.heap.FunFrames X.base X.outer
 frf:∀b∈X.fs,X.H₀ b=none
structure Inv (X:Cx)(pins:List (ae×Obj))(σ:List (Option V))(H:Hp)(s:af):Prop where
 ok:X.Ok
 os:s.os=X.s₀.os
 bare:iS s.gens
 base:Un X.fs X.ex X.H₀ H X.s₀.heap s.heap
 loc:∃m,s.heap.Ns X.env.locals m/\∀(i:Nat) (x:Str) (v:V),X.N[i]?=some x->σ[i]?=some (some v)->Gz X.env.scope x->∃u,RelV v u/\aie X.env s.heap m x u
 cell:∀x c,X.env.cells.lookup x=some c->∃v,s.heap.IsCell c v
 free:H X.env.locals=none
 qy:∀x c,X.env.cells.lookup x=some c->H c=none
 pin:∀p∈X.pn++pins,s.heap.get? p.1=some p.2/\H p.1=none/\p.1≠X.env.locals/\p.1∉X.fs/\∀v,p.2.data≠.cell v
 hok:xK X.prog X.w H s.heap
 len:σ.length=X.N.length
section
variable{X:Cx}{pins:List (ae×Obj)}{σ:List (Option V)}{H H':Hp}{s:af}{h':aE}
theorem Cx.Ok.acH(ok:X.Ok){b:ae}{o:Obj}(e:X.base.get? b=some o):b∉X.fs:=fun hb=>by have:=(ok.yI.mem hb).1;rw[e]at this;cases this
theorem Inv.bs(I:Inv X pins σ H s):∀b o,X.base.get? b=some o->s.heap.get? b=some o/\H b=none:=fun b o e =>
 ⟨I.base.keep b o (I.ok.bs b o e).1 (I.ok.bs b o e).2 (I.ok.acH e) (I.ok.Qv b o e),I.base.free b o (I.ok.bs b o e).1 (I.ok.bs b o e).2 (I.ok.Qv b o e)⟩
theorem Inv.bk(I:Inv X pins σ H s):∀b o,X.base.get? b=some o->s.heap.get? b=some o:=fun b o e=>(I.bs b o e).1
theorem Inv.mod(I:Inv X pins σ H s):Mod X.K X.mg X.base:=I.ok.mod
theorem Inv.GR(I:Inv X pins σ H s):X.K.In s.heap:=I.ok.mod.RN.keeps I.bk
theorem Inv.lt(I:Inv X pins σ H s):X.env.locals < s.heap.objs.size:=let ⟨_,hn,_⟩:=I.loc;hn.lt
theorem Inv.sz(I:Inv X pins σ H s):X.s₀.heap.objs.size<=s.heap.objs.size:=cx I.ok.above (gm I.lt)
theorem Inv.aif(I:Inv X pins σ H s){a:ae}(h:s.heap.objs.size<=a):a∉X.fs:=fun hb=>by obtain⟨_,o,ho,_⟩:=I.ok.yI.mem hb;exact absurd (d5 (bP ho) (cx I.sz h)) (f_ _)
theorem Inv.cne(I:Inv X pins σ H s):∀x c,X.env.cells.lookup x=some c->c≠X.env.locals:=fun x c e z=>by obtain⟨v,o,ho,hd⟩:=I.cell x c e;obtain⟨m,⟨o',es,ep,ho',hd',_⟩,_⟩:=I.loc;rw[z,ho']at ho;cases ho;rw[hd']at hd;cases hd
theorem Inv.yI(I:Inv X pins σ H s):s.heap.FunFrames X.base X.outer:=by
 have all:∀(l:List Env),(∀b∈uO l,b∈X.fs)->X.s₀.heap.FunFrames X.base l->s.heap.FunFrames X.base l:=by
  intro l
  induction l with
  |nil=>intro _ _;trivial
  |cons env r ih =>
   intro hs hl;obtain⟨hk,⟨L,o,hf,hn,ho,hd⟩,hr⟩:=hl;have hL:L∈X.fs:=hs L (by unfold uO;rw[nh,hf];exact eR);obtain⟨sl,e⟩:=I.base.slot L o ho (I.ok.frf L hL) hL fun z=>I.ok.Zj L z hL;exact⟨hk,⟨L,_,hf,hn,e,hd⟩,ih (fun b hb=>hs b (by unfold uO;rw[nh,hf];exact fv _ hb)) hr⟩
 exact all X.outer (fun _ hb=>hb) I.ok.yI
theorem Inv.stack(I:Inv X pins σ H s):s.heap.FunFrames X.base X.stack:=by
 rcases I.ok.stk with e|⟨e,hf⟩
 ·rw[e];exact I.yI
 ·rw[e];obtain⟨m,hn,_⟩:=I.loc;refine .cons (by rw[I.ok.kind];decide) hf hn ?_ I.yI;exact aE.get?_none_of_le (cx I.ok.bsz I.ok.above)
theorem Inv.yJ(I:Inv X pins σ H s):∀b∈uO X.stack,b∈X.env.locals::X.fs:=fun b hb=>by
 rcases I.ok.stk with e|⟨e,hf⟩
 ·rw[e]at hb;exact fv _ hb
 ·rw[e]at hb;unfold uO at hb;rw[nh,hf]at hb;exact hb
theorem Inv.Dy(I:Inv X pins σ H s):∀b∈uO X.stack,H b=none:=fun b hb=>by
 rcases cm.mp (I.yJ b hb) with e|hb
 ·rw[e];exact I.free
 ·obtain⟨_,o,ho,_⟩:=I.ok.yI.mem hb;exact I.base.free b o ho (I.ok.frf b hb) fun z=>I.ok.Zj b z hb
theorem Inv.step{g':Array kD}{t':Nat}{d':Drawn}{ch:List ae}(I:Inv X pins σ H s)
  (hch:∀b∈ch,(b∈X.ex∨X.s₀.heap.objs.size<=b)/\b≠X.env.locals/\(∀x c,X.env.cells.lookup x=some c->c≠b)/\∀p∈X.pn++pins,p.1≠b)
  (keep:∀b o,b≠X.env.locals->b∉X.fs->b∉ch->s.heap.get? b=some o->H b=none->h'.get? b=some o)
  (slot:∀b o,b≠X.env.locals->b∈X.fs->b∉ch->s.heap.get? b=some o->H b=none->∃sl,h'.get? b=some { o with slots:=sl }) (free:∀b o,b∉ch->s.heap.get? b=some o->H b=none->H' b=none)
  (there:∀b o,b∉ch->s.heap.get? b=some o->∃o',h'.get? b=some o')
  (tups:∀b xs,H b=some (.tup xs)->H' b=some (.tup xs)) (yG:∀b o u,H b=some (.Cd o u)->H' b=some (.Cd o u)) (Bg:∀b ps,H b=some (.tbl ps)->∃more,H' b=some (.tbl (ps++more)))
  (ns:∀m,s.heap.Ns X.env.locals m->h'.Ns X.env.locals m) (hok:xK X.prog X.w H' h') (hg:iS g') :
  Inv X pins σ H' { s with heap:=h',gens:=g',drawn:=d',toks:=t' }:=by
 have neL:∀b o,X.s₀.heap.get? b=some o->b≠X.env.locals:=fun b o e=>cv (d5 (bP e) I.ok.above);have neC:∀b o,X.s₀.heap.get? b=some o->b∉X.ex->b∉ch:=fun b o e hx hb=>by
  rcases(hch b hb).1 with z|z
  ·exact hx z
  ·exact absurd (d5 (bP e) z) (f_ _)
 have cellK:∀x c,X.env.cells.lookup x=some c->∀v,s.heap.IsCell c v->h'.IsCell c v:=fun x c e v ⟨o,ho,hd⟩=>by
  have nch:c∉ch:=fun z=>(hch c z).2.2.1 x c e rfl;by_cases hc:c∈X.fs
  ·obtain⟨sl,q⟩:=slot c o (I.cne x c e) hc nch ho (I.qy x c e);exact⟨_,q,hd⟩
  ·exact⟨o,keep c o (I.cne x c e) hc nch ho (I.qy x c e),hd⟩
 refine⟨I.ok,I.os,hg,⟨fun b o e n hb hx=>?_,fun b o e n hb hx=>?_,fun b o e n hx=>?_,fun b o e hx=>?_,fun b xs e=>tups b xs (I.base.tups b xs e),fun b o xs e=>yG b o xs (I.base.yG b o xs e),fun b ps e=>?_⟩,?_,fun x c e=>?_,?_,fun x c e=>?_,fun p hp=>?_,hok,I.len⟩
 ·exact keep b o (neL b o e) hb (neC b o e hx) (I.base.keep b o e n hb hx) (I.base.free b o e n hx)
 ·obtain⟨sl,e1⟩:=I.base.slot b o e n hb hx;obtain⟨sl',e2⟩:=slot b _ (neL b o e) hb (neC b o e hx) e1 (I.base.free b o e n hx);exact⟨sl',e2⟩
 ·obtain⟨o',e1⟩:=I.base.there b o e hx;exact free b o' (neC b o e hx) e1 (I.base.free b o e n hx)
 ·obtain⟨o',e1⟩:=I.base.there b o e hx;exact there b o' (neC b o e hx) e1
 ·obtain⟨m1,e1⟩:=I.base.Bg b ps e;obtain⟨m2,e2⟩:=Bg b _ e1;exact⟨m1++m2,by rw[e2,Array.append_assoc]⟩
 ·obtain⟨m,hn,hl⟩:=I.loc;refine⟨m,ns m hn,fun i x v e1 e2 e3=>?_⟩;obtain⟨u,r,l⟩:=hl i x v e1 e2 e3;refine⟨u,r,?_⟩;rcases l with l|⟨k,c,e,z⟩
  ·exact .inl l
  ·exact .inr ⟨k,c,e,cellK x c e _ z⟩
 ·obtain⟨v,z⟩:=I.cell x c e;exact⟨v,cellK x c e v z⟩
 ·obtain⟨m,⟨o,_,_,ho,_⟩,_⟩:=I.loc;exact free _ o (fun z=>(hch _ z).2.1 rfl) ho I.free
 ·obtain⟨v,o,ho,hd⟩:=I.cell x c e;exact free c o (fun z=>(hch c z).2.2.1 x c e rfl) ho (I.qy x c e)
 ·obtain⟨e,n,ne,nf,d⟩:=I.pin p hp;have nch:p.1∉ch:=fun z=>(hch p.1 z).2.2.2 p hp rfl;exact⟨keep p.1 p.2 ne nf nch e n,free p.1 p.2 nch e n,ne,nf,d⟩
theorem Inv.un{t':Nat}(I:Inv X pins σ H s)(u:Un X.fs [] H H' s.heap h')(hok:xK X.prog X.w H' h'):Inv X pins σ H' { s with heap:=h',toks:=t' }:=by
 obtain⟨m,⟨o,es,ep,ho,r⟩,_⟩:=id I.loc;obtain⟨sl,hL⟩:=u.any ho I.free (by simp);exact I.step (g':=s.gens) (d':=s.drawn) (ch:=[]) (fun _ z=>nomatch z) (fun b o _ hb _ e n=>u.keep b o e n hb (by simp)) (fun b o _ hb _ e n=>u.slot b o e n hb (by simp)) (fun b o _ e n=>u.free b o e n (by simp)) (fun b o _ e=>u.there b o e (by simp)) u.tups u.yG u.Bg (fun m' hm=>by
  obtain⟨o',es',ep',ho',r'⟩:=hm;rw[ho]at ho';cases ho';exact⟨_,es',ep',hL,r'⟩) hok I.bare
theorem Inv.call{g':Array kD}{t':Nat}{d':Drawn}{ch:List ae}(I:Inv X pins σ H s)(u:Un (uO X.stack) ch H H' s.heap h')(hok:xK X.prog X.w H' h')(hg:iS g')
  (hch:∀b∈ch,(b∈X.ex∨X.s₀.heap.objs.size<=b)/\b≠X.env.locals/\(∀x c,X.env.cells.lookup x=some c->c≠b)/\∀p∈X.pn++pins,p.1≠b) :
  Inv X pins σ H' { s with heap:=h',gens:=g',drawn:=d',toks:=t' }:=by
 obtain⟨m,⟨o,es,ep,ho,r⟩,_⟩:=id I.loc;obtain⟨sl,hL⟩:=u.any ho I.free fun z=>(hch _ z).2.1 rfl;exact I.step (ch:=ch) hch (fun b o hL hb hc e n=>u.keep b o e n (fun z=>(cm.mp (I.yJ b z)).elim hL hb) hc) (fun b o _ _ hc e n=>u.any e n hc) (fun b o hc e n=>u.free b o e n hc) (fun b o hc e=>u.there b o e hc) u.tups u.yG u.Bg (fun m' hm=>by
  obtain⟨o',es',ep',ho',r'⟩:=hm;rw[ho]at ho';cases ho';exact⟨_,es',ep',hL,r'⟩) hok hg
theorem Inv.turned{t':Nat}{it:ae}(I:Inv X pins σ H s)(k:∀b o,b≠it->s.heap.get? b=some o->h'.get? b=some o)(hn:H it=none)(hL:it≠X.env.locals)
  (h1:it∈X.ex∨X.s₀.heap.objs.size<=it) (h2:∀x c,X.env.cells.lookup x=some c->c≠it) (h3:∀p∈X.pn++pins,p.1≠it):Inv X pins σ H { s with heap:=h',toks:=t' }:=by
 have nit:∀b u,H b=some u->b≠it:=fun b u e z=>by rw[z,hn]at e;cases e
 refine I.step (g':=s.gens) (d':=s.drawn) (ch:=[it]) (fun b hb=>?_) (fun b o _ _ hc e _=>k b o (fun z=>hc (by simp[z])) e) (fun b o _ _ hc e _=>⟨o.slots,k b o (fun z=>hc (by simp[z])) e⟩) (fun _ _ _ _ n=>n)
  (fun b o hc e=>⟨o,k b o (fun z=>hc (by simp[z])) e⟩) (fun _ _ e=>e) (fun _ _ _ e=>e) (fun b ps e=>⟨#[],by rw[e];simp⟩) (fun m hm=>?_) (fun b u e=>?_) I.bare
 ·have e:b=it:=by simpa using hb
  subst e;exact⟨h1,hL,h2,h3⟩
 ·obtain⟨o,es,ep,ho,r⟩:=hm;exact⟨o,es,ep,k _ o (dE hL) ho,r⟩
 ·refine(I.hok b u e).stay (fun c v hc q=>k c v ?_ q) (fun _ q=>q) (fun _ _ q=>q) fun _ _ q=>q;rcases hc with z|z
  ·rw[z];exact nit b u e
  ·exact nit c _ z
theorem Inv.tok(I:Inv X pins σ H s)(t:Nat):Inv X pins σ H { s with toks:=t }:=I.un (h':=s.heap) (t':=t) Un.refl I.hok
theorem Inv.kept{t':Nat}(I:Inv X pins σ H s)(k:∀b u,s.heap.get? b=some u->h'.get? b=some u):Inv X pins σ H { s with heap:=h',toks:=t' }:=I.un (Un.kept k) (I.hok.kept k)
theorem Inv.laid{a:ae}{o:HO}{t':Nat}(I:Inv X pins σ H s)(k:∀b u,s.heap.get? b=some u->h'.get? b=some u)(hp:s.heap.objs.size<=a)(new:gq X.prog X.w (upd H a o) h' a o) :
  Inv X pins σ (upd H a o) { s with heap:=h',toks:=t' }:=I.un (Un.laid k hp (I.hok.fresh hp)) (I.hok.laid k hp new)
theorem Inv.write{x e:ae}{o:HO}{t':Nat}(I:Inv X pins σ H s)(mu:Mut (H x))(he:e=x∨H e=some (.own x))(k:∀b u,b≠e->s.heap.get? b=some u->h'.get? b=some u)(heo:∃u,h'.get? e=some u)
  (new:gq X.prog X.w (upd H x o) h' x o):Inv X pins σ (upd H x o) { s with heap:=h',toks:=t' }:=I.un (Un.write mu he k heo) (I.hok.write mu he k heo new)
theorem Inv.Dz{yK:List (ae×Obj)}(I:Inv X pins σ H s)(h:∀p∈yK,s.heap.get? p.1=some p.2/\H p.1=none/\p.1≠X.env.locals/\p.1∉X.fs/\∀v,p.2.data≠.cell v):Inv X yK σ H s :=
 ⟨I.ok,I.os,I.bare,I.base,I.loc,I.cell,I.free,I.qy,fun p hp=>(dt.mp hp).elim (fun z=>I.pin p (g7 _ z)) (h p),I.hok,I.len⟩
theorem GX{N:List Str}(hN:N.Nodup){i j:Nat}{x:Str}(a:N[i]?=some x)(b:N[j]?=some x):i=j:=by obtain⟨h1,e1⟩:=dm.mp a;obtain⟨h2,e2⟩:=dm.mp b;exact(List.getElem_inj hN).mp (e1.trans e2.symm)
theorem Ce{M:Model}{A:ba}{E:aa->af->Prop}{i:Nat}{x:Str}{v:V}{u:aa}{Q:Unit->af->Prop}(I:Inv X pins σ H s)(hN:X.N.Nodup)(hi:X.N[i]?=some x)(hx:Kg X.env.scope x)(r:RelV v u)
  (h:∀s',Inv X pins (σ.set i (some v)) H s'->(∃a,ef a s.heap s'.heap/\(a=X.env.locals∨X.env.cells.lookup x=some a))->Q () s') (hf:X.fn x=true∨X.env.scope.names.lookup x=some .local:=by first|exact .inl rfl|exact .inr rfl|assumption):aw M A (storeName X.env x u) Q E s:=by
 obtain⟨m,hn,hl⟩:=id I.loc;have hcls:(X.env.scope.kind == .class || (X.env.scope.kind == .module && X.env.locals != X.env.globals))=false:=by rw[I.ok.kind];rfl
 have hiσ:i < σ.length:=by rw[I.len];exact(dm.mp hi).1
 have cne:=I.cne;have tracked:∀{a:ae}{h':aE},(∃o,s.heap.get? a=some o/\H a=none)->ef a s.heap h'->xK X.prog X.w H h':=fun {a h'} ha hs b ob e=>by
  obtain⟨_,_,hfree⟩:=ha;refine(I.hok b ob e).stay (fun c w' hc q=>(hs.2 c ?_).trans q) (fun _ q=>q) (fun _ _ q=>q) fun _ _ q=>q;rintro rfl;rcases hc with rfl|hc
  ·rw[hfree]at e;cases e
  ·rw[hfree]at hc;cases hc
 rcases hx with hk|hk
 ·refine wpAny_storeName_local hk hn (fun h' hn' hs=>?_) hcls;obtain⟨oL,_,_,hoL,_⟩:=id hn;refine h _ ⟨I.ok,I.os,I.bare,⟨fun b o e n hb hx=>?_,fun b o e n hb hx=>?_,I.base.free,fun b o e hx=>?_,I.base.tups,I.base.yG,I.base.Bg⟩,⟨_,hn',fun j y v' e1 e2 e3=>?_⟩,fun y c e=>?_,I.free,I.qy,fun p hp=>?_,tracked ⟨oL,hoL,I.free⟩ hs,by simpa using I.len⟩ ⟨_,hs,.inl rfl⟩
  ·exact(hs.2 b (cv (d5 (bP e) I.ok.above))).trans (I.base.keep b o e n hb hx)
  ·obtain⟨sl,e1⟩:=I.base.slot b o e n hb hx;exact⟨sl,(hs.2 b (cv (d5 (bP e) I.ok.above))).trans e1⟩
  ·obtain⟨o',e1⟩:=I.base.there b o e hx;exact⟨o',(hs.2 b (cv (d5 (bP e) I.ok.above))).trans e1⟩
  ·by_cases hj:j=i
   ·subst hj;rw[hi]at e1;cases e1;rw[dy hiσ]at e2;cases e2;exact⟨u,r,.inl ⟨hk,by simp⟩⟩
   ·rw[cK (dE hj)]at e2;obtain⟨u',r',q⟩:=hl j y v' e1 e2 e3;refine⟨u',r',?_⟩;rcases q with ⟨k,e⟩|⟨k,c,e,z⟩
    ·refine .inl ⟨k,?_⟩;have:y≠x:=fun e=>hj (GX hN e1 (e▸hi));simp[this,e]
    ·exact .inr ⟨k,c,e,z.sameBut hs (cne y c e)⟩
  ·obtain⟨w',z⟩:=I.cell y c e;exact⟨w',z.sameBut hs (cne y c e)⟩
  ·obtain⟨e,n,ne,nf,d⟩:=I.pin p hp;exact⟨(hs.2 p.1 ne).trans e,n,ne,nf,d⟩
 ·have hfn:X.fn x=true:=by
   rcases hf with z|z
   ·exact z
   ·rw[z]at hk;cases hk
  obtain⟨c,hc⟩:=I.ok.has x (.inl hk);obtain⟨w',z⟩:=I.cell x c hc;refine wpAny_storeName_cell I.ok.kind hk hc z (fun h' hc' hs=>?_);obtain⟨oc,hoc,aii⟩:=id z;refine h { s with heap:=h' } ⟨I.ok,I.os,I.bare,⟨fun b o e n hb hx=>?_,fun b o e n hb hx=>?_,I.base.free,fun b o e hx=>?_,I.base.tups,I.base.yG,I.base.Bg⟩,⟨m,hn.sameBut hs (dE (cne x c hc)),fun j y v' e1 e2 e3=>?_⟩,fun y c' e=>?_,I.free,I.qy,fun p hp=>?_,tracked ⟨oc,hoc,I.qy x c hc⟩ hs,by simpa using I.len⟩ ⟨c,hs,.inr hc⟩
  ·exact(hs.2 b (cv (d5 (bP e) (I.ok.cab x c hfn hc)))).trans (I.base.keep b o e n hb hx)
  ·obtain⟨sl,e1⟩:=I.base.slot b o e n hb hx;exact⟨sl,(hs.2 b (cv (d5 (bP e) (I.ok.cab x c hfn hc)))).trans e1⟩
  ·obtain⟨o',e1⟩:=I.base.there b o e hx;exact⟨o',(hs.2 b (cv (d5 (bP e) (I.ok.cab x c hfn hc)))).trans e1⟩
  ·by_cases hj:j=i
   ·subst hj;rw[hi]at e1;cases e1;rw[dy hiσ]at e2;cases e2;exact⟨u,r,.inr ⟨.inl hk,c,hc,hc'⟩⟩
   ·rw[cK (dE hj)]at e2;obtain⟨u',r',q⟩:=hl j y v' e1 e2 e3;refine⟨u',r',?_⟩;rcases q with q|⟨k,c',e,z'⟩
    ·exact .inl q
    ·refine .inr ⟨k,c',e,z'.sameBut hs ?_⟩;rintro rfl;exact hj (GX hN e1 (I.ok.inj _ _ _ e hc▸hi))
  ·by_cases hcc:c'=c
   ·subst hcc;exact⟨_,hc'⟩
   ·obtain⟨w2,z2⟩:=I.cell y c' e;exact⟨w2,z2.sameBut hs hcc⟩
  ·obtain⟨e,n,ne,nf,d⟩:=I.pin p hp;refine⟨(hs.2 p.1 ?_).trans e,n,ne,nf,d⟩;intro q;rw[q,hoc]at e;have q':oc=p.2:=et e;exact d w' (by rw[<- q'];exact aii)
theorem GZ{M:Model}{A:ba}{E:aa->af->Prop}{i:Nat}{x:Str}{v:V}{u:aa}{Q:Unit->af->Prop}(I:Inv X pins σ H s)(hN:X.N.Nodup)(hi:X.N[i]?=some x)(hx:Kg X.env.scope x)(r:RelV v u)
  (h:∀s',Inv X pins (σ.set i (some v)) H s'->Q () s') (hf:X.fn x=true∨X.env.scope.names.lookup x=some .local:=by first|exact .inl rfl|exact .inr rfl|assumption):aw M A (storeName X.env x u) Q E s :=
 Ce I hN hi hx r (fun s' I' _=>h s' I') hf
theorem Inv.call'{s':af}{ch:List ae}(I:Inv X pins σ H s)(ho:s'.os=s.os)(u:Un (uO X.stack) ch H H' s.heap s'.heap)(hok:xK X.prog X.w H' s'.heap)(hg:iS s'.gens)
  (hch:∀b∈ch,(b∈X.ex∨X.s₀.heap.objs.size<=b)/\b≠X.env.locals/\(∀x c,X.env.cells.lookup x=some c->c≠b)/\∀p∈X.pn++pins,p.1≠b):Inv X pins σ H' s':=by
 obtain⟨h',g',d',t',o'⟩:=s';have e:o'=s.os:=ho;subst e;exact I.call (g':=g') (t':=t') (d':=d') u hok hg hch
end
noncomputable abbrev XK:=aa->Option ae->Hp->Prop
noncomputable abbrev St:=List (Option V)
noncomputable abbrev VK:=V->Hp->Prop
noncomputable abbrev TE:=St->Hp->VK->Prop
noncomputable abbrev TT:=St->Hp->(Bool->Hp->Prop)->Prop
noncomputable abbrev TA:=St->Hp->(List V->Hp->Prop)->Prop
structure Ends where
 nx:St->Hp->Prop
 rt:VK
 bk:St->Hp->Prop:=fun _ _=>False
 ct:St->Hp->Prop:=fun _ _=>False
noncomputable abbrev TS:=Ends->St->Hp->Prop
noncomputable def EP(X:Cx)(pins:List (ae×Obj))(σ:St)(Q:VK)(u:aa)(s':af):Prop:=∃v H',Inv X pins σ H' s'/\RelV v u/\Q v H'
noncomputable def TP(X:Cx)(pins:List (ae×Obj))(σ:St)(Q:Bool->Hp->Prop)(b:Bool)(s':af):Prop:=∃H',Inv X pins σ H' s'/\Q b H'
noncomputable def AP(X:Cx)(pins:List (ae×Obj))(σ:St)(Q:List V->Hp->Prop)(us:List aa)(s':af):Prop:=∃vs H',Inv X pins σ H' s'/\Vals vs us/\Q vs H'
noncomputable def SP(X:Cx)(pins:List (ae×Obj))(D:Ends)(f:Flow)(s':af):Prop :=
 match f with
 | .next=>∃σ' H',Inv X pins σ' H' s'/\D.nx σ' H'
 | .brk=>∃σ' H',Inv X pins σ' H' s'/\D.bk σ' H'
 | .cont=>∃σ' H',Inv X pins σ' H' s'/\D.ct σ' H'
 | .ret u=>∃v σ' H',Inv X pins σ' H' s'/\RelV v u/\D.rt v H'
noncomputable def PE(X:Cx)(e:ag)(t:TE):Prop :=
 ∀(pins:List (ae×Obj)) (s:af) (σ:St) (H:Hp) (Q:VK),Inv X pins σ H s->t σ H Q->aw (ay X.prog X.w) X.A (bj e X.env) (EP X pins σ Q) X.xe s
noncomputable def PT(X:Cx)(e:ag)(t:TT):Prop :=
 ∀(pins:List (ae×Obj)) (s:af) (σ:St) (H:Hp) (Q:Bool->Hp->Prop),Inv X pins σ H s->t σ H Q->aw (ay X.prog X.w) X.A (isTrue e X.env (bj e X.env)) (TP X pins σ Q) X.xe s
noncomputable def PW(X:Cx)(e:ag)(t:TT):Prop :=
 ∀(whole:Sem aa) (pins:List (ae×Obj)) (s:af) (σ:St) (H:Hp) (Q:Bool->Hp->Prop),Inv X pins σ H s->t σ H Q->aw (ay X.prog X.w) X.A (isTrue e X.env whole) (TP X pins σ Q) X.xe s
theorem PW.pt{X:Cx}{e:ag}{t:TT}(h:PW X e t):PT X e t:=h _
noncomputable def PA(X:Cx)(es:List ag)(t:TA):Prop :=
 ∀(pos:Pos) (pins:List (ae×Obj)) (s:af) (σ:St) (H:Hp) (Q:List V->Hp->Prop),Inv X pins σ H s->t σ H Q->aw (ay X.prog X.w) X.A (spliced (cS pos (bb es X.env))) (AP X pins σ Q) X.xe s
noncomputable def PS(X:Cx)(st:bg)(t:TS):Prop :=
 ∀(pins:List (ae×Obj)) (s:af) (σ:St) (H:Hp) (D:Ends),Inv X pins σ H s->t D σ H->aw (ay X.prog X.w) X.A (exec st X.env) (SP X pins D) X.xe s
noncomputable def DG(X:Cx)(st:List bg)(t:TS):Prop :=
 ∀(pins:List (ae×Obj)) (s:af) (σ:St) (H:Hp) (D:Ends),Inv X pins σ H s->t D σ H->aw (ay X.prog X.w) X.A (execs st X.env) (SP X pins D) X.xe s
theorem jq{α:Type}{t:Sem α}{Q Q':α->af->Prop}{M:Model}{A:ba}{E:aa->af->Prop}{s:af}(h:aw M A t Q E s)(hQ:∀a s,Q a s->Q' a s):aw M A t Q' E s:=d6 h hQ fun _ _ x=>x
section
variable{X:Cx}
noncomputable def yL(i:Nat):TE:=fun σ H Q=>∃v,σ[i]?=some (some v)/\Q v H
noncomputable def tC(v:V):TE:=fun _ H Q=>Q v H
theorem iw{i:Nat}{x:Str}{pos:Pos}(hN:X.N[i]?=some x)(hv:Gz X.env.scope x)(hd:qx x:=by decide)(hcd:GP x:=by decide):PE X (.Name x pos) (yL i):=by
 intro pins s σ H Q I h;obtain⟨v,e,h⟩:=h;obtain⟨m,hn,hl⟩:=I.loc;obtain⟨u,r,l⟩:=hl i x v hN e hv;have fQ:EP X pins σ Q u s:=⟨v,H,I,r,h⟩
 rcases l with ⟨hk,hm⟩|⟨hk,c,hc,hcell⟩
 ·exact wpAny_Name (wpAny_loadName_local I.ok.kind hk hn hm fQ) hd
 ·rcases hk with hk|hk
  ·exact wpAny_Name (wpAny_loadName_cell I.ok.kind hk hc hcell fQ) hd
  ·exact wpAny_Name (wpAny_loadName_free I.ok.kind hk hc hcell fQ hcd) hd
theorem acJ{i j pos}:PE X (.Constant (.int i) j pos) (tC (.int i)):=fun _ _ _ H _ I h=>wpAny_Constant_int ⟨.int i,H,I.tok _,⟨_,rfl⟩,h⟩
theorem afK{b j pos}:PE X (.Constant (.bool b) j pos) (tC (.bl b)):=fun _ _ _ H _ I h=>Constant_bool ⟨.bl b,H,I,rfl,h⟩
theorem acK{x j pos}:PE X (.Constant (.str x) j pos) (tC (.str x)):=fun _ _ _ H _ I h=>Calls.Constant_str ⟨.str x,H,I.tok _,⟨_,rfl⟩,h⟩
noncomputable def Gl(X:Cx)(x:Str):Prop:=X.env.kindOf x=some .globalImplicit
theorem xX{E:aa->af->Prop}{pins:List (ae×Obj)}{s:af}{σ:St}{H:Hp}{x:Str}{u:aa}{pos:Pos}{Q:aa->af->Prop}(I:Inv X pins σ H s)(hg:Gl X x)(hm:X.mg x=some u)(h:Q u s)
  (hd:qx x:=by decide):aw (ay X.prog X.w) X.A (bj (.Name x pos) X.env) Q E s :=
 Calls.Name_function_global I.ok.kind hg (Calls.loadGlobal_global (by rw[I.ok.glob];exact I.mod.glob.keeps I.bk) hm h) hd
theorem yM{E:aa->af->Prop}{pins:List (ae×Obj)}{s:af}{σ:St}{H:Hp}{x:Str}{u:aa}{pos:Pos}{Q:aa->af->Prop}(I:Inv X pins σ H s)(hg:Gl X x)(hm:X.mg x=none)(hv:il x=some u)(h:Q u s)
  (hn:x≠"__name__":=by decide) (hd:qx x:=by decide):aw (ay X.prog X.w) X.A (bj (.Name x pos) X.env) Q E s:=by
 obtain⟨mb,h1,h2⟩:=I.mod.blt;exact Calls.Name_function_global I.ok.kind hg (Calls.loadGlobal_builtin (by rw[I.ok.glob];exact I.mod.glob.keeps I.bk) hm (by rw[I.ok.blt];exact h1.keeps I.bk) ((h2 x hn).trans hv) h) hd
theorem Zk{x:Str}{v:V}{u:aa}{pos:Pos}(hg:Gl X x)(hm:X.mg x=some u)(r:RelV v u)(hd:qx x:=by decide):PE X (.Name x pos) (tC v) :=
 fun _ _ _ H _ I h=>xX I hg hm ⟨v,H,I,r,h⟩ hd
theorem Zm{x:Str}{v:V}{u:aa}{pos:Pos}(hg:Gl X x) (hm:X.mg x=none) (hv:il x=some u) (r:RelV v u) (hn:x≠"__name__":=by decide) (hd:qx x:=by decide):PE X (.Name x pos) (tC v) :=
 fun _ _ _ H _ I h=>yM I hg hm hv ⟨v,H,I,r,h⟩ hn hd
variable{a b:ag}{ta tb:TE}{pos:Pos}
noncomputable def tB(t:TE):TT:=fun σ H Q=>t σ H fun x H1=>∃c,x=.bl c/\Q c H1
theorem acL{e:ag}{t:TE}(h:PE X e t)(he:∀whole,isTrue e X.env whole=(do let v <- whole;nv e.pos;gc [v] (truthy v)):=by intro _;rfl):PT X e (tB t):=by intro pins s σ H Q I hw;refine isTrue_plain (jq (h pins s σ H _ I hw) fun v s1 ⟨x,H1,I1,r1,q1⟩=>?_) (he _);obtain⟨d,rfl,q⟩:=q1;cases r1;exact sg ⟨H1,I1,q⟩
variable{tA tB':TT}{rest:List ag}
noncomputable def aij(t u:TT):TT:=fun σ H Q=>t σ H fun c H1=>if c=true then u σ H1 Q else Q false H1
noncomputable def tOr(t u:TT):TT:=fun σ H Q=>t σ H fun c H1=>if c=true then Q true H1 else u σ H1 Q
noncomputable def aik(t:TT):TT:=fun σ H Q=>t σ H fun c H1=>Q (!c) H1
theorem Zn(ha:PT X a tA):PW X (.BoolOp .And [a] pos) tA:=by
 intro wh pins s σ H Q I h;refine isTrue_and (jq (ha pins s σ H Q I h) fun c s1 e=>?_);cases c with
 |true=>exact isTrue_and_nil e
 |false=>exact e
theorem acM(ha:PT X a tA):PW X (.BoolOp .Or [a] pos) tA:=by
 intro wh pins s σ H Q I h;refine isTrue_or (jq (ha pins s σ H Q I h) fun c s1 e=>?_);cases c with
 |false=>exact isTrue_or_nil e
 |true=>exact e
theorem acN(ha:PT X a tA)(hb:PW X (.BoolOp .And (b::rest) pos) tB'):PW X (.BoolOp .And (a::b::rest) pos) (aij tA tB'):=by
 intro wh pins s σ H Q I h;refine isTrue_and (jq (ha pins s σ H _ I h) fun c s1 fU=>?_);obtain⟨H1,I1,q1⟩:=fU;cases c with
 |true=>exact hb wh pins s1 σ H1 Q I1 q1
 |false=>exact⟨H1,I1,q1⟩
theorem afL(ha:PT X a tA)(hb:PW X (.BoolOp .Or (b::rest) pos) tB'):PW X (.BoolOp .Or (a::b::rest) pos) (tOr tA tB'):=by
 intro wh pins s σ H Q I h;refine isTrue_or (jq (ha pins s σ H _ I h) fun c s1 fU=>?_);obtain⟨H1,I1,q1⟩:=fU;cases c with
 |true=>exact⟨H1,I1,q1⟩
 |false=>exact hb wh pins s1 σ H1 Q I1 q1
theorem acO(ha:PT X a tA):PT X (.UnaryOp .Not a pos) (aik tA):=by intro pins s σ H Q I h;exact isTrue_not (ha pins s σ H (fun c H1=>Q (!c) H1) I h)
noncomputable def afM(ta tb:TE):TE:=fun σ H Q=>ta σ H fun x H1=>∃c,x=.bl c/\if c=true then tb σ H1 Q else Q (.bl false) H1
theorem acP{op}{t:TE}(h:PE X a t):PE X (.BoolOp op [a] pos) t:=fun pins s σ H Q I hw=>BoolOp_one (h pins s σ H Q I hw)
theorem acQ(ha:PE X a ta)(hb:PE X (.BoolOp .And (b::rest) pos) tb):PE X (.BoolOp .And (a::b::rest) pos) (afM ta tb):=by
 intro pins s σ H Q I h;refine BoolOp_and (jq (ha pins s σ H _ I h) fun v s1 fU=>?_);obtain⟨x,H1,I1,r1,q1⟩:=fU;obtain⟨c,rfl,q1⟩:=q1;cases r1;refine sg ?_;cases c with
 |true=>exact hb pins s1 σ H1 Q I1 q1
 |false=>exact⟨.bl false,H1,I1,rfl,q1⟩
end
noncomputable def qp(K:ai)(H:Hp)(a:ae)(xs:List V):Prop :=
 Rd H a (.lst xs) ∨
  ∃(o:Obj) (its:Array aa) (n:Nat),K.lookup a=some o/\o.cls=.type "list"/\o.dict=none/\o.data=.seq its n/\its.size<=sizeLine/\Vals xs its.toList
noncomputable def mX(K:ai)(H:Hp)(a:ae)(xs:List V):Prop :=
 Rd H a (.tup xs) ∨
  ∃(o:Obj) (its:Array aa) (n:Nat),K.lookup a=some o/\o.cls=.type "tuple"/\o.data=.seq its n/\its.size<=sizeLine/\Vals xs its.toList
noncomputable def ail:aa->Option V
 | .none=>some .non
 | .bool b=>some (.bl b)
 | .int i _=>some (.int i)
 | .str x _=>some (.str x)
 | .bytes b _=>some (.byt b)
 | .float b _=>some (.flt b)
 | .ref a=>some (.ref a)
 | .type n=>some (.ty n)
 |_=>none
theorem RelV.abs{x:V}{u:aa}(r:RelV x u):ail u=some x:=by
 cases x with
 |non=>cases r;rfl
 |bl _=>cases r;rfl
 |int _=>obtain⟨t,rfl⟩:=r;rfl
 |str _=>obtain⟨t,rfl⟩:=r;rfl
 |byt _=>obtain⟨t,rfl⟩:=r;rfl
 |flt _=>obtain⟨t,rfl⟩:=r;rfl
 |ref _=>cases r;rfl
 |ty _=>cases r;rfl
theorem RelV.inj{x y:V}{u:aa}(r:RelV x u)(q:RelV y u):x=y:=et (r.abs.symm.trans q.abs)
theorem Vals.inj:∀{xs ys:List V}{us:List aa},Vals xs us->Vals ys us->xs=ys
 |_,_,_,.nil,.nil=>rfl
 |_,_,_,.cons r t,.cons r' t'=>by rw[r.inj r',Vals.inj t t']
section
variable{X:Cx}{pins:List (ae×Obj)}{σ:St}{H:Hp}{s:af}{a:ae}{xs ys:List V}
theorem qp.of{K:ai}(h:H a=some (.lst xs)):qp K H a xs:=.inl (.inl h)
theorem mX.of{K:ai}(h:H a=some (.tup xs)):mX K H a xs:=.inl (.inl h)
theorem Inv.list(I:Inv X pins σ H s)(h:qp X.K H a xs):∃its:List aa,Vals xs its/\PlainL s.heap a its.toArray/\xs.length<=sizeLine:=by
 rcases h with h|⟨o,its,n,hk,hc,hd,hs,hz,r⟩
 ·obtain⟨z,its,n,r,e⟩:=h.ok I.hok;exact⟨its,r,⟨_,n,e,rfl,rfl,rfl⟩,z⟩
 ·refine⟨its.toList,r,⟨o,n,I.GR a o hk,hc,hd,by simpa using hs⟩,?_⟩;have e:=r.length;simp only[jS]at e;lia
theorem Inv.tuple(I:Inv X pins σ H s)(h:mX X.K H a xs):∃its:List aa,Vals xs its/\kB s.heap a its.toArray/\xs.length<=sizeLine:=by
 rcases h with h|⟨o,its,n,hk,hc,hs,hz,r⟩
 ·obtain⟨z,its,r,p⟩:=h.ok I.hok;exact⟨its,r,p,z⟩
 ·refine⟨its.toList,r,⟨o,I.GR a o hk,hc,n,by simpa using hs⟩,?_⟩;have e:=r.length;simp only[jS]at e;lia
theorem Inv.Hf(I:Inv X pins σ H s)(h:qp X.K H a xs)(h':qp X.K H a ys):xs=ys:=by
 obtain⟨its,r,⟨o,n,e,_,_,d⟩,_⟩:=I.list h;obtain⟨its',r',⟨o',n',e',_,_,d'⟩,_⟩:=I.list h';rw[e]at e';cases e';rw[d]at d';injection d' with d1 _;have:its=its':=by simpa using congrArg Array.toList d1
 subst this;exact r.inj r'
theorem Inv.Cg(I:Inv X pins σ H s)(h:mX X.K H a xs)(h':mX X.K H a ys):xs=ys:=by
 obtain⟨its,r,⟨o,e,_,n,d⟩,_⟩:=I.tuple h;obtain⟨its',r',⟨o',e',_,n',d'⟩,_⟩:=I.tuple h';rw[e]at e';cases e';rw[d]at d';injection d' with d1 _;have:its=its':=by simpa using congrArg Array.toList d1
 subst this;exact r.inj r'
end
noncomputable abbrev Cx.wish(X:Cx)(E:aa->af->Prop):Cx:={ X with xe:=E }
noncomputable abbrev Cx.Zo(X:Cx):Cx:=X.wish fun _ _=>False
theorem Cx.Ok.wish{X:Cx}(ok:X.Ok)(E:aa->af->Prop):(X.wish E).Ok :=
 ⟨ok.mod,ok.kind,ok.glob,ok.blt,ok.above,ok.inj,ok.has,ok.cab,ok.hd,ok.frames,ok.stk,ok.exf,ok.bs,ok.bsz,ok.Qv,ok.Zj,ok.yI,ok.frf⟩
theorem Cx.Ok.mq{X:Cx}{E:aa->af->Prop}(ok:(X.wish E).Ok):X.Ok :=
 ⟨ok.mod,ok.kind,ok.glob,ok.blt,ok.above,ok.inj,ok.has,ok.cab,ok.hd,ok.frames,ok.stk,ok.exf,ok.bs,ok.bsz,ok.Qv,ok.Zj,ok.yI,ok.frf⟩
section
variable{X:Cx}{pins:List (ae×Obj)}{σ:St}{H:Hp}{s:af}{E:aa->af->Prop}
theorem Inv.wish(I:Inv X pins σ H s)(E:aa->af->Prop):Inv (X.wish E) pins σ H s:=⟨I.ok.wish E,I.os,I.bare,I.base,I.loc,I.cell,I.free,I.qy,I.pin,I.hok,I.len⟩
theorem Inv.mq(I:Inv (X.wish E) pins σ H s):Inv X pins σ H s:=⟨I.ok.mq,I.os,I.bare,I.base,I.loc,I.cell,I.free,I.qy,I.pin,I.hok,I.len⟩
theorem SP.mq{D:Ends}{f:Flow}{s':af}(h:SP (X.wish E) pins D f s'):SP X pins D f s':=by
 cases f with
 |next=>obtain⟨σ',H',I,q⟩:=h;exact⟨σ',H',I.mq,q⟩
 |brk=>obtain⟨σ',H',I,q⟩:=h;exact⟨σ',H',I.mq,q⟩
 |cont=>obtain⟨σ',H',I,q⟩:=h;exact⟨σ',H',I.mq,q⟩
 |ret u=>obtain⟨v,σ',H',I,r,q⟩:=h;exact⟨v,σ',H',I.mq,r,q⟩
theorem PE.Zo{e:ag}{t:TE}(h:PE X.Zo e t):PE X e t:=fun pins s σ H Q I hw =>
 d6 (h pins s σ H Q (I.wish _) hw) (fun _ _ ⟨v,H',I',r,q⟩=>⟨v,H',I'.mq,r,q⟩) fun _ _ z=>eM z
end
section
variable{X:Cx}{st:bg}{rest:List bg}{t u:TS}{e:ag}{te:TE}{pos:Pos}
noncomputable def afN:TS:=fun D σ H=>D.nx σ H
noncomputable def ain(t u:TS):TS:=fun D σ H=>t { D with nx:=u D } σ H
theorem Zq:DG X [] afN:=fun _ _ σ H _ I h=>o8 ⟨σ,H,I,h⟩
theorem Hg(h1:PS X st t)(h2:DG X rest u):DG X (st::rest) (ain t u):=by
 intro pins s σ H D I h;refine wpAny_execs_cons (jq (h1 pins s σ H { D with nx:=u D } I h) fun f s1 q=>?_);cases f with
 |next =>
  obtain⟨σ',H',I',q⟩:=q;exact h2 pins s1 σ' H' D I' q
 |ret v=>exact q
 |brk=>exact q
 |cont=>exact q
theorem Nv(h1:PS X st t):DG X [st] t:=by
 intro pins s σ H D I h;refine wpAny_execs_cons (jq (h1 pins s σ H D I h) fun f s1 q=>?_);cases f with
 |next=>exact o8 q
 |ret v=>exact q
 |brk=>exact q
 |cont=>exact q
theorem Inv.quiet{pins:List (ae×Obj)}{σ:St}{H:Hp}{s:af}(I:Inv X pins σ H s):interactive X.env=false:=by simp[interactive,I.ok.kind]
noncomputable def afO(te:TE):TS:=fun D σ H=>te σ H fun _ H1=>D.nx σ H1
theorem rO(he:PE X e te)(hs:dS e none pos.line X.env=pure false:=by rfl):PS X (.Expr e pos) (afO te):=by intro pins s σ H D I h;exact wpAny_Expr_any (jq (he pins s σ H _ I h) fun v s1 ⟨x,H1,I1,r1,q1⟩=>⟨σ,H1,I1,q1⟩) I.quiet hs
noncomputable def aio(te:TE):TS:=fun D σ H=>te σ H D.rt
theorem DK(he:PE X e te):PS X (.Return (some e) pos) (aio te):=by intro pins s σ H D I h;exact wpAny_Return_some (jq (he pins s σ H _ I h) fun v s1 ⟨x,H1,I1,r1,q1⟩=>⟨x,σ,H1,I1,r1,q1⟩)
noncomputable def aip(c:TT)(t u:TS):TS:=fun D σ H=>c σ H fun b H1=>if b=true then t D σ H1 else u D σ H1
theorem afP{c:ag}{a b:List bg}{tc:TT}(hc:PT X c tc)(ha:DG X a t)(hb:DG X b u):PS X (.If c a b pos) (aip tc t u):=by
 intro pins s σ H D I h;refine wpAny_If (jq (hc pins s σ H _ I h) fun d s1 fU=>?_);obtain⟨H1,I1,q1⟩:=fU;cases d with
 |true=>exact ha pins s1 σ H1 D I1 q1
 |false=>exact hb pins s1 σ H1 D I1 q1
end
noncomputable abbrev TG:=V->St->Hp->(St->Hp->Prop)->Prop
noncomputable abbrev Zr:=List V->St->Hp->(St->Hp->Prop)->Prop
noncomputable def PG(X:Cx)(target:ag)(t:TG):Prop :=
 ∀(pins:List (ae×Obj)) (s:af) (σ:St) (H:Hp) (v:V) (u:aa) (Q:St->Hp->Prop),Inv X pins σ H s->RelV v u->t v σ H Q ->
  aw (ay X.prog X.w) X.A (assign target X.env u) (fun _ s'=>∃σ' H',Inv X pins σ' H' s'/\Q σ' H') X.xe s
noncomputable def Zd(X:Cx)(ts:List ag)(t:Zr):Prop :=
 ∀(pins:List (ae×Obj)) (s:af) (σ:St) (H:Hp) (vs:List V) (us:List aa) (Q:St->Hp->Prop),Inv X pins σ H s->Vals vs us->t vs σ H Q ->
  aw (ay X.prog X.w) X.A (assignInOrder ((fF ts X.env).map (·.2)) us) (fun _ s'=>∃σ' H',Inv X pins σ' H' s'/\Q σ' H') X.xe s
noncomputable abbrev Zt:=V->V->V->Hp->(Hp->Prop)->Prop
noncomputable def afQ(X:Cx)(t:Zt):Prop :=
 ∀(pins:List (ae×Obj)) (s:af) (σ:St) (H:Hp) (o i v:V) (ov iv u:aa) (Q:Hp->Prop),Inv X pins σ H s->RelV o ov->RelV i iv->RelV v u->t o i v H Q ->
  aw (ay X.prog X.w) X.A (setItem ov iv u) (fun _ s'=>∃H',Inv X pins σ H' s'/\Q H') X.xe s
section
variable{X:Cx}{pos:Pos}
noncomputable def abJ(i:Nat):TG:=fun v σ H Q=>Q (σ.set i (some v)) H
theorem Zu{i:Nat}{x:Str}(hN:X.N.Nodup)(hi:X.N[i]?=some x)(hx:Kg X.env.scope x)(hf:X.fn x=true∨X.env.scope.names.lookup x=some .local:=by first|exact .inl rfl|exact .inr rfl|assumption):PG X (.Name x pos) (abJ i):=by intro pins s σ H v u Q I r h;exact wpAny_assign_Name (GZ I hN hi hx r (fun s' I'=>⟨_,H,I',h⟩) hf)
noncomputable def aiq:Zr:=fun vs σ H Q=>vs=[]/\Q σ H
noncomputable def afR(t:TG)(u:Zr):Zr:=fun vs σ H Q=>∃v r,vs=v::r/\t v σ H fun σ' H'=>u r σ' H' Q
theorem Zv:Zd X [] aiq:=by intro pins s σ H vs us Q I r h;obtain⟨e,h⟩:=h;subst e;cases r;exact assignInOrder_nil ⟨σ,H,I,h⟩
theorem Sv{e:ag}{es:List ag}{t:TG}{u:Zr}(h1:PG X e t)(h2:Zd X es u)
  (hs:(fF (e::es) X.env).map (·.2)=assign e X.env::(fF es X.env).map (·.2):=by rfl):Zd X (e::es) (afR t u):=by
 intro pins s σ H vs us Q I r h;obtain⟨v,vr,e1,h⟩:=h;subst e1;cases r with
 |cons r rr =>
  rw[hs];refine assignInOrder_cons (jq (h1 pins s σ H _ _ _ I r h) fun _ s1 fU=>?_);obtain⟨σ1,H1,I1,q1⟩:=fU;exact h2 pins s1 σ1 H1 _ _ Q I1 rr q1
noncomputable def cU(K:ai)(n:Nat)(t:Zr):TG:=fun v σ H Q=>∃a xs,v=.ref a/\mX K H a xs/\xs.length=n/\t xs σ H Q
theorem acR{es:List ag}{k:Nat}{t:Zr}{n:Nat}(hc:X.calm=true)(h:Zd X es t)
  (hn:(fF es X.env).length=n:=by rfl) (hst:(fF es X.env).findIdx? (·.1)=none:=by rfl):PG X (.Tuple es k pos) (cU X.K n t):=by
 intro pins s σ H v u Q I r hw;obtain⟨a,xs,e1,hq,hl,hw⟩:=hw;subst e1;cases r;obtain⟨its,rv,ht,hz⟩:=I.tuple hq;refine assign_Tuple_tuple (I.ok.hd hc) ht (by simp[hn,<- hl,rv.length]) hst fun h' hx=>?_;have I1:Inv X pins σ H { s with heap:=h' }:=I.kept (t':=s.toks) fun b o e=>hx b o (cv (bP e)) e;exact h pins _ σ H xs _ Q I1 (by simpa using rv) hw
noncomputable def jQ(to ti:TE)(t:Zt):TG:=fun v σ H Q=>to σ H fun o H1=>ti σ H1 fun i H2=>t o i v H2 fun H3=>Q σ H3
theorem acS{o i:ag}{to ti:TE}{t:Zt}(ho:PE X o to)(hi:PE X i ti)(hs:afQ X t)
  (ha:∀v,assign (.Subscript o i pos) X.env v=(do
   let ov <- gc [v] (bj o X.env)
   let iv <- gc [v,ov] (bj i X.env)
   nv pos
   gc [v,ov,iv] (setItem ov iv v)
   release [v,ov,iv] []):=by intro _;rfl):PG X (.Subscript o i pos) (jQ to ti t):=by
 intro pins s σ H v u Q I r h;rw[ha];refine ah (fI (jq (ho pins s σ H _ I h) fun ov s1 fU=>?_));obtain⟨x,H1,I1,r1,q1⟩:=fU;refine ah (fI (jq (hi pins s1 σ H1 _ I1 q1) fun iv s2 fU=>?_));obtain⟨y,H2,I2,r2,q2⟩:=fU;refine ah (si (ah (fI (jq (hs pins s2 σ H2 x y v ov iv u _ I2 r1 r2 r q2) fun _ s3 fU=>?_))));obtain⟨H3,I3,q3⟩:=fU;exact wpAny_release ⟨σ,H3,I3,q3⟩
noncomputable def afS(te:TE)(g:TG):TS:=fun D σ H=>te σ H fun x H1=>g x σ H1 D.nx
theorem Sw{tg e:ag}{te:TE}{g:TG}(he:PE X e te)(hg:PG X tg g)(hs:ny [tg] e pos.line X.env=pure false:=by rfl)(hw:nz [tg] e X.env=pure none:=by rfl)
  (h1:(fF [tg] X.env).map (·.2)=[assign tg X.env]:=by rfl):PS X (.Assign [tg] e pos) (afS te g):=by
 intro pins s σ H D I h;refine wpAny_Assign_stores (jq (he pins s σ H _ I h) fun v s1 ⟨x,H1,I1,r1,q1⟩=>?_) hs hw;rw[h1];exact jq (hg pins s1 σ H1 x v _ I1 r1 q1) fun _ s2 q=>q
theorem yN{i:Nat}{x:Str}{e:ag}{te:TE}{pos':Pos}(hN:X.N.Nodup)(hi:X.N[i]?=some x)(hx:Kg X.env.scope x)(he:PE X e te)(hs:dS e (some (.Name x pos')) pos.line X.env=pure false:=by rfl)(hf:X.fn x=true∨X.env.scope.names.lookup x=some .local:=by first|exact .inl rfl|exact .inr rfl|assumption) :
  PS X (.Assign [.Name x pos'] e pos) (afS te (abJ i)):=by
 intro pins s σ H D I h;refine wpAny_Assign_Name (jq (he pins s σ H _ I h) fun v s1 ⟨y,H1,I1,r1,q1⟩=>?_) hs;exact GZ I1 hN hi hx r1 (fun s2 I2=>⟨_,H1,I2,q1⟩) hf
end
section
variable{X:Cx}{pos:Pos}
noncomputable def acT(c:TT)(tb:TS):TS:=fun D σ H=>∃W:Nat->St->Hp->Prop,(∃m,W m σ H)/\∀m σ H,W m σ H ->
 c σ H fun b H1=>if b=true then ∃N:St->Hp->Prop,(∀σ' H',N σ' H'->∃m',m' < m/\W m' σ' H')/\tb { D with nx:=N,ct:=N,bk:=D.nx } σ H1 else D.nx σ H1
theorem Sx{c:ag}{body:List bg}{tc:TT}{tb:TS}(hp:kF (ay X.prog X.w) X.A X.env X.xe)(hc:PT X c tc)(hb:DG X body tb):PS X (.While c body [] pos) (acT tc tb):=by
 intro pins s σ H D I h;obtain⟨W,⟨m0,w0⟩,turn⟩:=h;refine wpAny_While (codeAny_whileLoop (fun n s'=>∃σ' H',Inv X pins σ' H' s'/\W n σ' H') ?_ m0 ⟨σ,H,I,w0⟩);rintro n s1 ⟨σ1,H1,I1,w1⟩;refine kG hp (jq (hc pins s1 σ1 H1 _ I1 (turn n σ1 H1 w1)) fun b s2 fU=>?_);obtain⟨H2,I2,q2⟩:=fU;cases b with
 |true =>
  obtain⟨N,hN,q2⟩:=q2;rw[if_pos rfl];refine kG hp (jq (hb pins s2 σ1 H2 _ I2 q2) fun f s3 q3=>?_);cases f with
  |next =>
   obtain⟨σ3,H3,I3,n3⟩:=q3;obtain⟨m',hm,w3⟩:=hN σ3 H3 n3;exact⟨m',hm,σ3,H3,I3,w3⟩
  |cont =>
   obtain⟨σ3,H3,I3,n3⟩:=q3;obtain⟨m',hm,w3⟩:=hN σ3 H3 n3;exact⟨m',hm,σ3,H3,I3,w3⟩
  |brk=>exact q3
  |ret v=>exact q3
 |false =>
  rw[if_neg sj];exact o8 ⟨σ1,H2,I2,q2⟩
end
structure It where
 go:Nat->Hp->Prop
 yld:Nat->Hp->V->Hp->Prop
 stop:Nat->Hp->Prop
noncomputable def xM(X:Cx)(pins:List (ae×Obj))(H:Hp)(b:ae):Prop :=
 H b=none/\b≠X.env.locals/\b∉X.fs/\(b∈X.ex∨X.s₀.heap.objs.size<=b)/\(∀x c,X.env.cells.lookup x=some c->c≠b)/\∀p∈X.pn++pins,p.1≠b
theorem Inv.Sy{X:Cx}{pins:List (ae×Obj)}{σ:St}{H H':Hp}{s:af}{b:ae}(I:Inv X pins σ H s)(hb:s.heap.objs.size<=b)(hn:H' b=none):xM X pins H' b:=by
 refine⟨hn,lT (d5 I.lt hb),I.aif hb,.inr (cx I.sz hb),fun x c e z=>?_,fun p hp z=>?_⟩
 ·obtain⟨v,q⟩:=I.cell x c e;exact absurd (d5 q.lt (by rw[z];exact hb)) (f_ _)
 ·exact absurd (d5 (bP (I.pin p hp).1) (by rw[z];exact hb)) (f_ _)
structure Turn (P:aS)(w:az)(K:ai)(tg:ag)(J:It)(fp:List ae)(it:ae)(tn:Nat->aE->Prop):Prop where
  mem:it∈fp
  obj:∀i h,tn i h->∀b∈fp,∃o,h.get? b=some o/\∀v,o.data≠.cell v
  keep:∀i h h',tn i h->(∀b∈fp,∀o,h.get? b=some o->h'.get? b=some o)->tn i h'
  item:∀(X:Cx),X.prog=P->X.w=w->X.K=K->X.calm=true->∀(i:Nat) (pins:List (ae×Obj)) (s:af) (σ:St) (H:Hp) (E:aa->af->Prop),Inv X pins σ H s->(∀b∈fp,xM X pins H b)->tn i s.heap->J.go i H ->
    aw (ay P w) X.A (gd (.ref it)) (fun r s1=>∃u,r=some u /\
      aw (ay P w) X.A (o9 tg (.ref it) u) (fun _ s2=>∃x H',Inv X pins σ H' s2/\RelV x u/\J.yld i H x H'/\tn (i + 1) s2.heap/\∀b∈fp,H' b=none) E s1) E s
  done : ∀(X : Cx), X.prog = P -> X.w = w -> X.K = K -> X.calm = true -> ∀(i : Nat) (pins : List (ae × Obj)) (s : af) (σ : St) (H : Hp) (E : aa -> af -> Prop), Inv X pins σ H s -> (∀b ∈ fp, xM X pins H b) -> tn i s.heap -> J.stop i H ->
    aw (ay P w) X.A (gd (.ref it)) (fun r s1=>r=none/\Inv X pins σ H s1) E s
  self:∀(A:ba) (i:Nat) (s:af) (Q:aa->af->Prop) (E:aa->af->Prop),tn i s.heap->Q (.ref it) s->aw (ay P w) A (kH (.ref it)) Q E s
noncomputable abbrev TI:=St->Hp->(It->Hp->Prop)->Prop
noncomputable def PIE(X:Cx)(pins:List (ae×Obj))(σ:St)(tg:ag)(R:It->Hp->Prop)(itv:aa)(s2:af):Prop :=
 ∃(it:ae) (fp:List ae) (tn:Nat->aE->Prop) (J:It) (H':Hp),itv=.ref it/\Inv X pins σ H' s2/\Turn X.prog X.w X.K tg J fp it tn/\tn 0 s2.heap/\(∀b∈fp,xM X pins H' b)/\R J H'
noncomputable def PI(X:Cx)(tg iter:ag)(wi:TI):Prop :=
 ∀(pins:List (ae×Obj)) (s:af) (σ:St) (H:Hp) (R:It->Hp->Prop),Inv X pins σ H s->wi σ H R ->
  aw (ay X.prog X.w) X.A (bj iter X.env) (fun v s1=>aw (ay X.prog X.w) X.A (kH v) (PIE X pins σ tg R) X.xe s1) X.xe s
theorem SJ{M:Model}{A:ba}{E:aa->af->Prop}{s:af}{tg:ag}{it:ae}{u:aa}{o:Obj}{n:String}{vs:Array aa}{Q:Unit->af->Prop}(ho:s.heap.get? it=some o)(hc:o.cls=.type n)(hd:o.data=.fields vs)
    (hn:["enumerate","zip","dict_itemiterator","dict_reverseitemiterator","odict_iterator","itertools.zip_longest","itertools.pairwise"].contains n=false) (hQ:Q () s):aw M A (o9 tg (.ref it) u) Q E s:=by
  unfold o9;cases tg <;> first
    |exact aT hQ
    | (cases u <;> first
        |exact aT hQ
        | (refine ah (wpAny_load ho ?_)
           rw[hc,hd];show aw M A (if (["enumerate","zip","dict_itemiterator","dict_reverseitemiterator","odict_iterator","itertools.zip_longest","itertools.pairwise"].contains n && vs[0]? == some (cz _))=true then _ else _) Q E s;rw[if_neg (by intro h;rw[hn,sm]at h;cases h)];exact aT hQ))
noncomputable def Itl(K:ai)(a:ae):It :=
 ⟨fun i H=>∃xs x,qp K H a xs/\xs[i]?=some x,fun i H x H'=>H'=H/\∀xs,qp K H a xs->xs[i]?=some x,fun i H=>∃xs,qp K H a xs/\xs.length<=i⟩
noncomputable def Itt(K:ai)(a:ae):It :=
 ⟨fun i H=>∃xs x,mX K H a xs/\xs[i]?=some x,fun i H x H'=>H'=H/\∀xs,mX K H a xs->xs[i]?=some x,fun i H=>∃xs,mX K H a xs/\xs.length<=i⟩
noncomputable def SM(lo:Int)(n:Nat):It:=⟨fun i _=>i < n,fun i H x H'=>H'=H/\x=.int (lo + i),fun i _=>n<=i⟩
theorem Qw{P:aS}{w:az}{K:ai}{tg:ag}(a it:ae):Turn P w K tg (Itl K a) [it] it (fun i h=>h.IsListIter it a i) where
  mem:=by simp
  obj:=fun i h st b hb=>by
    have e:b=it:=by simpa using hb
    subst e;obtain⟨o,e,c,d⟩:=st;exact⟨o,e,fun v z=>by rw[d]at z;cases z⟩
  keep:=fun i h h' st k=>st.at fun o e=>k it (by simp) o e
  item:=by intro X hP hw hK hc i pins s σ H E I hf st hg;subst hP hw hK;obtain⟨xs,x,hq,hx⟩:=hg;obtain⟨its,rv,p,hz⟩:=I.list hq;obtain⟨u,hu,ru⟩:=rv.get hx;obtain⟨f0,f1,f2,f3,f4,f5⟩:=hf it (by simp);refine wpAny_pyNext_list_item st p.isList (x:=u) (by simpa using hu) fun h' st' sb=>?_;have I1:Inv X pins σ H { s with heap:=h' }:=I.turned (t':=s.toks) (fun b o hb e=>(sb.2 b hb).trans e) f0 f1 f3 f4 f5;obtain⟨o,e,c,d⟩:=id st';exact⟨u,rfl,SJ (s:={ s with heap:=h' }) e c d (by decide) ⟨x,H,I1,ru,⟨rfl,fun ys hy=>by rw[I.Hf hy hq];exact hx⟩,st',fun b hb=>(hf b hb).1⟩⟩
  done := by
    intro X hP hw hK hc i pins s σ H E I hf st hg;subst hP hw hK;obtain⟨xs,hq,hx⟩:=hg;obtain⟨its,rv,p,hz⟩:=I.list hq;obtain⟨f0,f1,f2,f3,f4,f5⟩:=hf it (by simp);have hl:=rv.length;exact wpAny_pyNext_list_end (I.ok.hd hc) st p.isList (by simp;lia) fun h' eb=>⟨rfl,I.turned (t':=s.toks) (fun b o hb e=>eb b o hb e) f0 f1 f3 f4 f5⟩
  self:=fun _ _ _ _ _ st h=>wpAny_pyIter_listiter st h
theorem Kh{P:aS}{w:az}{K:ai}{tg:ag}(a it:ae):Turn P w K tg (Itt K a) [it] it (fun i h=>h.IsTupleIter it a i) where
  mem:=by simp
  obj:=fun i h st b hb=>by
    have e:b=it:=by simpa using hb
    subst e;obtain⟨o,e,c,d⟩:=st;exact⟨o,e,fun v z=>by rw[d]at z;cases z⟩
  keep:=fun i h h' st k=>st.at fun o e=>k it (by simp) o e
  item:=by intro X hP hw hK hc i pins s σ H E I hf st hg;subst hP hw hK;obtain⟨xs,x,hq,hx⟩:=hg;obtain⟨its,rv,p,hz⟩:=I.tuple hq;obtain⟨u,hu,ru⟩:=rv.get hx;obtain⟨f0,f1,f2,f3,f4,f5⟩:=hf it (by simp);refine wpAny_pyNext_tuple_item st (show s.heap.IsTuple a its.toArray from p) (x:=u) (by simpa using hu) fun h' st' sb=>?_;have I1:Inv X pins σ H { s with heap:=h' }:=I.turned (t':=s.toks) (fun b o hb e=>(sb.2 b hb).trans e) f0 f1 f3 f4 f5;obtain⟨o,e,c,d⟩:=id st';exact⟨u,rfl,SJ (s:={ s with heap:=h' }) e c d (by decide) ⟨x,H,I1,ru,⟨rfl,fun ys hy=>by rw[I.Cg hy hq];exact hx⟩,st',fun b hb=>(hf b hb).1⟩⟩
  done := by
    intro X hP hw hK hc i pins s σ H E I hf st hg;subst hP hw hK;obtain⟨xs,hq,hx⟩:=hg;obtain⟨its,rv,p,hz⟩:=I.tuple hq;obtain⟨f0,f1,f2,f3,f4,f5⟩:=hf it (by simp);have hl:=rv.length;exact wpAny_pyNext_tuple_end (I.ok.hd hc) st (show s.heap.IsTuple a its.toArray from p) (by simp;lia) fun h' eb=>⟨rfl,I.turned (t':=s.toks) (fun b o hb e=>eb b o hb e) f0 f1 f3 f4 f5⟩
  self:=fun _ _ _ _ _ st h=>wpAny_pyIter_tupleiter st h
theorem Kl{P:aS}{w:az}{K:ai}{tg:ag}(it:ae)(lo:Int)(n:Nat):Turn P w K tg (SM lo n) [it] it (fun i h=>IsRangeIter h it (lo + (i:Nat) * 1) ((n:Int) - (i:Nat)) 1) where
  mem:=by simp
  obj:=fun i h st b hb=>by
    have e:b=it:=by simpa using hb
    subst e;exact⟨_,st,fun v z=>by
      have z':Data.fields _=Data.cell v:=z;cases z'⟩
  keep:=fun i h h' st k=>k it (by simp) _ st
  item:=by intro X hP hw hK hc i pins s σ H E I hf st hg;subst hP hw hK;obtain⟨f0,f1,f2,f3,f4,f5⟩:=hf it (by simp);have W:=Walks.range (prog:=X.prog) (w:=X.w) (I.ok.hd hc) it lo 1 n;refine W.item i s _ _ hg st fun v h' tk hv st' kk=>?_;obtain⟨t,rfl⟩:=hv;have I1:Inv X pins σ H { s with heap:=h',toks:=tk }:=I.turned (fun b o hb e=>kk b o (by simpa using hb) e) f0 f1 f3 f4 f5;refine⟨_,rfl,SJ (s:={ s with heap:=h',toks:=tk }) (n:="range_iterator") st' rfl rfl (by decide) ⟨.int (lo + i),H,I1,⟨t,?_⟩,⟨rfl,rfl⟩,st',fun b hb=>(hf b hb).1⟩⟩;rw[Int.mul_one]
  done := by
    intro X hP hw hK hc i pins s σ H E I hf st hg;subst hP hw hK;obtain⟨f0,f1,f2,f3,f4,f5⟩:=hf it (by simp);exact wpAny_pyNext_range_end (I.ok.hd hc) st (by have:n<=i:=hg;lia) fun h' eb=>⟨rfl,I.turned (t':=s.toks) (fun b o hb e=>eb b o hb e) f0 f1 f3 f4 f5⟩
  self:=fun _ _ _ _ _ st h=>wpAny_pyIter_rangeiter st h
section
variable{X:Cx}{tg:ag}
noncomputable def afU(K:ai)(tl:TE):TI:=fun σ H R=>tl σ H fun x H1=>∃a,x=.ref a/\(∃xs,qp K H1 a xs)/\R (Itl K a) H1
noncomputable def air(K:ai)(tl:TE):TI:=fun σ H R=>tl σ H fun x H1=>∃a,x=.ref a/\(∃xs,mX K H1 a xs)/\R (Itt K a) H1
theorem Nx{l:ag}{tl:TE}(hl:PE X l tl):PI X tg l (afU X.K tl):=by
 intro pins s σ H R I h;refine jq (hl pins s σ H _ I h) fun v s1 fU=>?_;obtain⟨x,H1,I1,r1,q1⟩:=fU;obtain⟨a,e,⟨xs,hq⟩,q⟩:=q1;subst e;cases r1;obtain⟨its,rv,p,hz⟩:=I1.list hq;refine wpAny_pyIter_list p.isList ?_;refine⟨s1.heap.objs.size,[s1.heap.objs.size],_,_,H1,rfl,I1.kept (t':=s1.toks) fun b o e=>cy _ e,Qw a _,⟨_,dA _ rfl,rfl,rfl⟩,fun b hb=>?_,q⟩;have e:b=s1.heap.objs.size:=by simpa using hb
 subst e;exact I1.Sy (bE _) (I1.hok.fresh (bE _))
theorem SN{l:ag}{tl:TE}(hl:PE X l tl):PI X tg l (air X.K tl):=by
 intro pins s σ H R I h;refine jq (hl pins s σ H _ I h) fun v s1 fU=>?_;obtain⟨x,H1,I1,r1,q1⟩:=fU;obtain⟨a,e,⟨xs,hq⟩,q⟩:=q1;subst e;cases r1;obtain⟨its,rv,p,hz⟩:=I1.tuple hq;refine wpAny_pyIter_tuple (show s1.heap.IsTuple a its.toArray from p) ?_;refine⟨s1.heap.objs.size,[s1.heap.objs.size],_,_,H1,rfl,I1.kept (t':=s1.toks) fun b o e=>cy _ e,Kh a _,⟨_,dA _ rfl,rfl,rfl⟩,fun b hb=>?_,q⟩;have e:b=s1.heap.objs.size:=by simpa using hb
 subst e;exact I1.Sy (bE _) (I1.hok.fresh (bE _))
theorem Hh{pins:List (ae×Obj)}{σ:St}{H:Hp}{s:af}{R:It->Hp->Prop}{E:aa->af->Prop}{lo hi:Int}{t u v:Tok}{tk:Nat}(I:Inv X pins σ H s)(h1:-(2 ^ 62)<=lo)(h2:lo < 2 ^ 62)(h3:-(2 ^ 62)<=hi)(h4:hi < 2 ^ 62)
  (q:R (SM lo (hi - lo).toNat) H):aw (ay X.prog X.w) X.A (kH (.ref s.heap.objs.size)) (PIE X pins σ tg R) E { s with heap:=s.heap.push { cls:=.type "range",data:=.fields #[.int lo t,.int hi u,.int 1 v] },toks:=tk }:=by
 refine wpAny_pyIter_range (IsRange.new ..) (small_one h1 h2 h3 h4) ?_;have I1:Inv X pins σ H { s with heap:=s.heap.push { cls:=.type "range",data:=.fields #[.int lo t,.int hi u,.int 1 v] },toks:=tk }:=I.kept fun b o e=>cy _ e;refine⟨(s.heap.push { cls:=.type "range",data:=.fields #[.int lo t,.int hi u,.int 1 v] }).objs.size,[(s.heap.push { cls:=.type "range",data:=.fields #[.int lo t,.int hi u,.int 1 v] }).objs.size],_,_,H,rfl,
  I1.kept (t':=tk) fun b o e=>cy _ e,Kl _ lo (hi - lo).toNat,?_,fun b hb=>?_,q⟩
 ·have e1:lo + ((0:Nat):Int) * 1=lo:=by simp
  have e2:(((hi - lo).toNat:Nat):Int) - ((0:Nat):Int)=cE.Range.rangeSize lo hi 1:=by rw[rangeSize_one];split <;> lia
  show IsRangeIter _ _ (lo + ((0:Nat):Int) * 1) ((((hi - lo).toNat:Nat):Int) - ((0:Nat):Int)) 1;rw[e1,e2];exact dA _ rfl
 ·have e:b=(s.heap.push { cls:=.type "range",data:=.fields #[.int lo t,.int hi u,.int 1 v] }).objs.size:=by simpa using hb
  subst e;exact I1.Sy (bE _) (I1.hok.fresh (bE _))
noncomputable def afV(ta:TA):TI:=fun σ H R=>ta σ H fun vs H1=>∃j:Int,vs=[.int j]/\-(2 ^ 62)<=j/\j < 2 ^ 62/\R (SM 0 j.toNat) H1
noncomputable def afW(ta:TA):TI:=fun σ H R=>ta σ H fun vs H1=>∃i j:Int,vs=[.int i,.int j]/\(-(2 ^ 62)<=i/\i < 2 ^ 62/\-(2 ^ 62)<=j/\j < 2 ^ 62)/\R (SM i (j - i).toNat) H1
theorem Qx{a:ag}{ta:TA}{p pos:Pos}(hg:Gl X "range") (hm:X.mg "range"=none) (ha:PA X [a] ta) (hs:bb [a] X.env=[(false,bj a X.env)]:=by rfl):PI X tg (.Call (.Name "range" p) [a] [] pos) (afV ta):=by
 intro pins s σ H R I h;refine Call_ (yM I hg hm boot_range (sC (jq (ha pos pins s σ H _ I h) fun us s1 ⟨vs,H1,I1,r1,q1⟩=>?_) hs rfl));obtain⟨j,e,q1,q2,q⟩:=q1;subst e;cases r1 with
 |cons r rr =>
  cases rr;obtain⟨t,rfl⟩:=r;exact call_range_1 (Hh I1 (by lia) (by lia) q1 q2 (by simpa using q))
theorem Ci{a b:ag}{ta:TA}{p pos:Pos}(hg:Gl X "range") (hm:X.mg "range"=none) (ha:PA X [a,b] ta) (hs:bb [a,b] X.env=[(false,bj a X.env),(false,bj b X.env)]:=by rfl) (hs2:bb [b] X.env=[(false,bj b X.env)]:=by rfl) :
  PI X tg (.Call (.Name "range" p) [a,b] [] pos) (afW ta):=by
 intro pins s σ H R I h;refine Call_ (yM I hg hm boot_range (sC (jq (ha pos pins s σ H _ I h) fun us s1 ⟨vs,H1,I1,r1,q1⟩=>?_) (by rw[hs,hs2]) (by rw[hs2];rfl)));obtain⟨i,j,e,⟨q1,q2,q3,q4⟩,q⟩:=q1;subst e;cases r1 with
 |cons r rr =>
  cases rr with
  |cons r' rr =>
   cases rr;obtain⟨t,rfl⟩:=r;obtain⟨t',rfl⟩:=r';exact call_range_2 (Hh I1 q1 q2 q3 q4 q)
noncomputable def ais(wi:TI)(g:TG)(tb:TS):TS:=fun D σ H=>wi σ H fun J H1=>∃W:Nat->Nat->St->Hp->Prop,(∃m,W 0 m σ H1)/\∀i m σ H,W i m σ H ->
 (J.stop i H/\D.nx σ H)∨(J.go i H/\∃N:St->Hp->Prop,(∀σ' H',N σ' H'->∃m',m' < m/\W (i + 1) m' σ' H')/\∀x H',J.yld i H x H'->g x σ H' fun σ2 H2=>tb { D with nx:=N,ct:=N,bk:=D.nx } σ2 H2)
noncomputable def vY(fp:List ae)(h:aE):List (ae×Obj):=fp.filterMap fun b=>(h.get? b).map fun o=>(b,o)
theorem oZ{fp:List ae}{h:aE}{b:ae}{o:Obj}(hb:b∈fp)(e:h.get? b=some o):(b,o)∈vY fp h:=jI.mpr ⟨b,hb,by rw[e];rfl⟩
theorem Qy{fp:List ae}{h:aE}{p:ae×Obj}(hp:p∈vY fp h):p.1∈fp/\h.get? p.1=some p.2:=by
 obtain⟨b,hb,e⟩:=jI.mp hp;cases q:h.get? b with
 |none=>rw[q]at e;cases e
 |some o =>
  rw[q]at e;have e':(b,o)=p:=et e;subst e';exact⟨hb,q⟩
theorem Inv.pinned{pins:List (ae×Obj)}{σ:St}{H:Hp}{s:af}{fp:List ae}(I:Inv X pins σ H s)(hf:∀b∈fp,xM X pins H b)(ho:∀b∈fp,∃o,s.heap.get? b=some o/\∀v,o.data≠.cell v):Inv X (pins++vY fp s.heap) σ H s :=
 I.Dz fun p hp=>(dt.mp hp).elim (fun z=>I.pin p (fw _ z)) fun z=>by obtain⟨hb,e⟩:=Qy z;obtain⟨f0,f1,f2,_⟩:=hf p.1 hb;obtain⟨o,e',d⟩:=ho p.1 hb;rw[e]at e';cases e';exact⟨e,f0,f1,f2,d⟩
theorem Inv.uP{pins pl:List (ae×Obj)}{σ:St}{H:Hp}{s:af}(I:Inv X (pins++pl) σ H s):Inv X pins σ H s:=I.Dz fun p hp=>I.pin p (fw _ (g7 _ hp))
theorem DN{iter:ag}{body:List bg}{wi:TI}{g:TG}{tb:TS}{pos:Pos}(hp:kF (ay X.prog X.w) X.A X.env X.xe)(hc:X.calm=true)(hi:PI X tg iter wi)(hg:PG X tg g)(hb:DG X body tb)
  (hs:∀x,fN iter X.env x=pure x:=by intro _;rfl):PS X (.For tg iter body [] pos) (ais wi g tb):=by
 intro pins s σ H D I h;refine wpAny_For (jq (hi pins s σ H _ I h) fun v s1 h1=>jq h1 fun itv s2 h2=>?_) hs;obtain⟨it,fp,tn,J,H2,e,I2,T,st2,f2,W,⟨m0,w0⟩,turn⟩:=h2;subst e;have stat:∀{H':Hp},(∀b∈fp,H' b=none)->∀b∈fp,xM X pins H' b:=fun hn b hb=>⟨hn b hb,(f2 b hb).2⟩
 refine codeAny_forLoop_any (fun n s'=>∃i σ' H',Inv X pins σ' H' s'/\tn i s'.heap/\(∀b∈fp,H' b=none)/\W i n σ' H') ?_ m0 ⟨0,σ,H2,I2,st2,fun b hb=>(f2 b hb).1,w0⟩;rintro n s3 ⟨i,σ3,H3,I3,st3,fr3,w3⟩;rcases turn i n σ3 H3 w3 with ⟨stop,qn⟩|⟨go,N,hN,step⟩
 ·refine kG hp (jq (T.done X rfl rfl rfl hc i pins s3 σ3 H3 X.xe I3 (stat fr3) st3 stop) fun r s4 fU=>?_);obtain⟨hr,I4⟩:=fU;subst hr;exact o8 ⟨σ3,H3,I4,qn⟩
 ·refine kG hp (jq (T.item X rfl rfl rfl hc i pins s3 σ3 H3 X.xe I3 (stat fr3) st3 go) fun r s4 fU=>?_);obtain⟨u,hr,h4⟩:=fU;subst hr;refine kG hp (jq h4 fun _ s5 fU=>?_);obtain⟨x,H5,I5,r5,y5,st5,fr5⟩:=fU;have I5':=I5.pinned (stat fr5) (T.obj _ _ st5);refine kG hp (jq (hg _ s5 σ3 H5 x u _ I5' r5 (step x H5 y5)) fun _ s6 fU=>?_);obtain⟨σ6,H6,I6,q6⟩:=fU;refine kG hp (jq (hb _ s6 σ6 H6 _ I6 q6) fun f s7 q7=>?_);have again:∀{σ7:St}{H7:Hp},Inv X (pins++vY fp s5.heap) σ7 H7 s7->N σ7 H7->∃m,m < n/\∃i σ' H',Inv X pins σ' H' s7/\tn i s7.heap/\(∀b∈fp,H' b=none)/\W i m σ' H':=fun {σ7 H7} I7 n7=>by obtain⟨m',hm,w7⟩:=hN σ7 H7 n7;refine⟨m',hm,i + 1,σ7,H7,I7.uP,T.keep _ _ _ st5 fun b hb o e=>(I7.pin (b,o) (fw _ (fw _ (oZ hb e)))).1,fun b hb=>?_,w7⟩;obtain⟨o,e,d⟩:=T.obj _ _ st5 b hb;exact(I7.pin (b,o) (fw _ (fw _ (oZ hb e)))).2.1
  cases f with
  |next=>obtain⟨σ7,H7,I7,n7⟩:=q7;exact again I7 n7
  |cont=>obtain⟨σ7,H7,I7,n7⟩:=q7;exact again I7 n7
  |brk=>obtain⟨σ7,H7,I7,q7⟩:=q7;exact⟨σ7,H7,I7.uP,q7⟩
  |ret v=>obtain⟨x7,σ7,H7,I7,r7,q7⟩:=q7;exact⟨x7,σ7,H7,I7.uP,r7,q7⟩
end
theorem SQ{K:ai}{a:ae}{xs:List V}{g:TG}{tb:TS}{D:Ends}{σ:St}{H:Hp}(Pv:Nat->St->Hp->Prop)(h0:Pv 0 σ H)(hl:∀i σ H,i<=xs.length->Pv i σ H->qp K H a xs)
  (hs:∀i x σ H,xs[i]?=some x->Pv i σ H->g x σ H fun σ2 H2=>tb { D with nx:=Pv (i + 1),ct:=Pv (i + 1),bk:=D.nx } σ2 H2) (hd:∀σ H,Pv xs.length σ H->D.nx σ H) :
  ∃W:Nat->Nat->St->Hp->Prop,(∃m,W 0 m σ H)/\∀i m σ H,W i m σ H ->
   ((Itl K a).stop i H/\D.nx σ H)∨((Itl K a).go i H/\∃N:St->Hp->Prop,(∀σ' H',N σ' H'->∃m',m' < m/\W (i + 1) m' σ' H')/\∀x H',(Itl K a).yld i H x H'->g x σ H' fun σ2 H2=>tb { D with nx:=N,ct:=N,bk:=D.nx } σ2 H2):=by
 refine⟨fun i m σ H=>m=xs.length - i/\i<=xs.length/\Pv i σ H,⟨xs.length,by simp,eJ _,h0⟩,?_⟩;rintro i m σ H ⟨rfl,hi,p⟩;have q:=hl i σ H hi p;by_cases hlt:i < xs.length
 ·refine .inr ⟨⟨xs,xs[i],q,by simp[hlt]⟩,Pv (i + 1),fun σ' H' p'=>⟨xs.length - (i + 1),by lia,rfl,hlt,p'⟩,fun x H' y=>?_⟩;obtain⟨e,y⟩:=y;subst e;exact hs i x σ _ (y xs q) p
 ·have e:i=xs.length:=by lia
  subst e;exact .inl ⟨⟨xs,q,bE _⟩,hd σ H p⟩
theorem Zw{K:ai}{a:ae}{xs:List V}{g:TG}{tb:TS}{D:Ends}{σ:St}{H:Hp}(Pv:Nat->St->Hp->Prop)(h0:Pv 0 σ H)(hl:∀i σ H,i<=xs.length->Pv i σ H->mX K H a xs)
  (hs:∀i x σ H,xs[i]?=some x->Pv i σ H->g x σ H fun σ2 H2=>tb { D with nx:=Pv (i + 1),ct:=Pv (i + 1),bk:=D.nx } σ2 H2) (hd:∀σ H,Pv xs.length σ H->D.nx σ H) :
  ∃W:Nat->Nat->St->Hp->Prop,(∃m,W 0 m σ H)/\∀i m σ H,W i m σ H ->
   ((Itt K a).stop i H/\D.nx σ H)∨((Itt K a).go i H/\∃N:St->Hp->Prop,(∀σ' H',N σ' H'->∃m',m' < m/\W (i + 1) m' σ' H')/\∀x H',(Itt K a).yld i H x H'->g x σ H' fun σ2 H2=>tb { D with nx:=N,ct:=N,bk:=D.nx } σ2 H2):=by
 refine⟨fun i m σ H=>m=xs.length - i/\i<=xs.length/\Pv i σ H,⟨xs.length,by simp,eJ _,h0⟩,?_⟩;rintro i m σ H ⟨rfl,hi,p⟩;have q:=hl i σ H hi p;by_cases hlt:i < xs.length
 ·refine .inr ⟨⟨xs,xs[i],q,by simp[hlt]⟩,Pv (i + 1),fun σ' H' p'=>⟨xs.length - (i + 1),by lia,rfl,hlt,p'⟩,fun x H' y=>?_⟩;obtain⟨e,y⟩:=y;subst e;exact hs i x σ _ (y xs q) p
 ·have e:i=xs.length:=by lia
  subst e;exact .inl ⟨⟨xs,q,bE _⟩,hd σ H p⟩
theorem Qz{lo:Int}{n:Nat}{g:TG}{tb:TS}{D:Ends}{σ:St}{H:Hp}(Pv:Nat->St->Hp->Prop)(h0:Pv 0 σ H)
  (hs:∀i σ H,i < n->Pv i σ H->g (.int (lo + i)) σ H fun σ2 H2=>tb { D with nx:=Pv (i + 1),ct:=Pv (i + 1),bk:=D.nx } σ2 H2) (hd:∀σ H,Pv n σ H->D.nx σ H) :
  ∃W:Nat->Nat->St->Hp->Prop,(∃m,W 0 m σ H)/\∀i m σ H,W i m σ H ->
   ((SM lo n).stop i H/\D.nx σ H)∨((SM lo n).go i H/\∃N:St->Hp->Prop,(∀σ' H',N σ' H'->∃m',m' < m/\W (i + 1) m' σ' H')/\∀x H',(SM lo n).yld i H x H'->g x σ H' fun σ2 H2=>tb { D with nx:=N,ct:=N,bk:=D.nx } σ2 H2):=by
 refine⟨fun i m σ H=>m=n - i/\i<=n/\Pv i σ H,⟨n,by simp,eJ _,h0⟩,?_⟩;rintro i m σ H ⟨rfl,hi,p⟩;by_cases hlt:i < n
 ·refine .inr ⟨hlt,Pv (i + 1),fun σ' H' p'=>⟨n - (i + 1),by lia,rfl,hlt,p'⟩,fun x H' y=>?_⟩;obtain⟨e,y⟩:=y;subst e y;exact hs i σ _ hlt p
 ·have e:i=n:=by lia
  subst e;exact .inl ⟨bE _,hd σ H p⟩
noncomputable abbrev R2:=V->V->Hp->VK->Prop
noncomputable def rP(X:Cx)(f:aa->aa->Sem aa)(r:R2):Prop :=
 ∀(pins:List (ae×Obj)) (s:af) (σ:St) (H:Hp) (x y:V) (v u:aa) (Q:VK),Inv X pins σ H s->RelV x v->RelV y u->r x y H Q ->
  aw (ay X.prog X.w) X.A (f v u) (EP X pins σ Q) X.xe s
noncomputable def UnR(X:Cx)(f:aa->Sem aa)(r:V->Hp->VK->Prop):Prop :=
 ∀(pins:List (ae×Obj)) (s:af) (σ:St) (H:Hp) (x:V) (v:aa) (Q:VK),Inv X pins σ H s->RelV x v->r x H Q ->
  aw (ay X.prog X.w) X.A (f v) (EP X pins σ Q) X.xe s
noncomputable def gZ(X:Cx)(f:aa)(r:List V->Hp->VK->Prop):Prop :=
 ∀(pins:List (ae×Obj)) (s:af) (σ:St) (H:Hp) (xs:List V) (us:List aa) (Q:VK),Inv X pins σ H s->Vals xs us->r xs H Q ->
  aw (ay X.prog X.w) X.A (call f us) (EP X pins σ Q) X.xe s
noncomputable def tOp(r:R2)(ta tb:TE):TE:=fun σ H Q=>ta σ H fun x H1=>tb σ H1 fun y H2=>r x y H2 Q
noncomputable def tUn(r:V->Hp->VK->Prop)(ta:TE):TE:=fun σ H Q=>ta σ H fun x H1=>r x H1 Q
noncomputable def rI(C:Int->Int->Prop)(g:Int->Int->V):R2:=fun x y H Q=>∃i j,x=.int i/\y=.int j/\C i j/\Q (g i j) H
noncomputable def Tc(g:Int->Int->V):R2:=fun x y H Q=>∃i j,x=.int i/\y=.int j/\Q (g i j) H
noncomputable def rU(g:Int->V):V->Hp->VK->Prop:=fun x H Q=>∃i,x=.int i/\Q (g i) H
section
variable{X:Cx}{a b c:ag}{ta tb tc:TE}{pos:Pos}
theorem acW(ha:PE X a ta)(hb:PE X b tb){pins:List (ae×Obj)}{s:af}{σ:St}{H:Hp}{R:V->V->Hp->Prop}(I:Inv X pins σ H s)
  (h:ta σ H fun x H1=>tb σ H1 fun y H2=>R x y H2) {Q:aa->af->Prop}{f:aa->aa->Sem aa}
  (hf:∀v u s2 x y H2,Inv X pins σ H2 s2->RelV x v->RelV y u->R x y H2->aw (ay X.prog X.w) X.A (f v u) Q X.xe s2) :
  aw (ay X.prog X.w) X.A (bj a X.env) (fun v s₁=>aw (ay X.prog X.w) X.A (bj b X.env) (fun u s₂=>aw (ay X.prog X.w) X.A (f v u) Q X.xe s₂) X.xe s₁) X.xe s:=by
 refine jq (ha pins s σ H _ I h) fun v s1 fU=>?_;obtain⟨x,H1,I1,r1,q1⟩:=fU;refine jq (hb pins s1 σ H1 _ I1 q1) fun u s2 fU=>?_;obtain⟨y,H2,I2,r2,q2⟩:=fU;exact hf v u s2 x y H2 I2 r1 r2 q2
theorem afX{op:Operator}{r:R2}(ho:rP X (fx op) r)(ha:PE X a ta)(hb:PE X b tb):PE X (.BinOp a op b pos) (tOp r ta tb):=by intro pins s σ H Q I h;exact wpAny_BinOp (acW ha hb I h fun v u s2 x y H2 I2 rx ry q=>ho pins s2 σ H2 x y v u Q I2 rx ry q)
theorem afY{op:UnaryOp}{r:V->Hp->VK->Prop}(ho:UnR X (unaryOp op) r)(ha:PE X a ta):PE X (.UnaryOp op a pos) (tUn r ta):=by intro pins s σ H Q I h;exact UnaryOp_ (jq (ha pins s σ H _ I h) fun v s1 ⟨x,H1,I1,r1,q1⟩=>ho pins s1 σ H1 x v Q I1 r1 q1)
theorem opI{f:aa->aa->Sem aa}{C:Int->Int->Prop}{g:Int->Int->Int}
  (rule:∀(i j:Int) (t u:Tok) (s:af) (Q:aa->af->Prop) (E:aa->af->Prop),C i j->Q (.int (g i j) s.toks) { s with toks:=s.toks + 1 }->aw (ay X.prog X.w) X.A (f (.int i t) (.int j u)) Q E s) :
  rP X f (rI C fun i j=>.int (g i j)):=by
 intro pins s σ H x y v u Q I rx ry h;obtain⟨i,j,rfl,rfl,hc,q⟩:=h;obtain⟨t,rfl⟩:=rx;obtain⟨t',rfl⟩:=ry;exact rule i j t t' s _ _ hc ⟨.int (g i j),H,I.tok _,⟨_,rfl⟩,q⟩
theorem acX{f:aa->aa->Sem aa}{g:Int->Int->Int}
  (rule:∀(i j:Int) (t u:Tok) (s:af) (Q:aa->af->Prop) (E:aa->af->Prop),Q (.int (g i j) s.toks) { s with toks:=s.toks + 1 }->aw (ay X.prog X.w) X.A (f (.int i t) (.int j u)) Q E s) :
  rP X f (Tc fun i j=>.int (g i j)):=by
 intro pins s σ H x y v u Q I rx ry h;obtain⟨i,j,rfl,rfl,q⟩:=h;obtain⟨t,rfl⟩:=rx;obtain⟨t',rfl⟩:=ry;exact rule i j t t' s _ _ ⟨.int (g i j),H,I.tok _,⟨_,rfl⟩,q⟩
theorem acY{f:aa->aa->Sem aa}{g:Int->Int->Bool}
  (rule:∀(i j:Int) (t u:Tok) (s:af) (Q:aa->af->Prop) (E:aa->af->Prop),Q (.bool (g i j)) s->aw (ay X.prog X.w) X.A (f (.int i t) (.int j u)) Q E s) :
  rP X f (Tc fun i j=>.bl (g i j)):=by
 intro pins s σ H x y v u Q I rx ry h;obtain⟨i,j,rfl,rfl,q⟩:=h;obtain⟨t,rfl⟩:=rx;obtain⟨t',rfl⟩:=ry;exact rule i j t t' s _ _ ⟨.bl (g i j),H,I,rfl,q⟩
noncomputable def Td(i j:Int):Prop:=0<=j/\j<=1000000/\i.natAbs < 2 ^ 64
noncomputable def Ko(i j:Int):Prop:=(-(2 ^ 64) < i/\i < 2 ^ 64)∨(-(2 ^ 64) < j/\j < 2 ^ 64)
theorem Ko.ok{i j:Int}(h:Ko i j):IntMulOk i j:=by
 rcases h with ⟨h1,h2⟩|⟨h1,h2⟩
 ·exact .of_left (intBits_le_64 h1 h2)
 ·exact .of_right (intBits_le_64 h1 h2)
theorem Kq(k:Nat):(0:Int)<=2 ^ k:=by rw[two_pow_cast];exact Int.natCast_nonneg _
theorem acZ:rP X (fx .Add) (Tc fun i j=>.int (i + j)):=acX fun _ _ _ _ _ _ _ q=>add_int q
theorem ada:rP X (fx .Sub) (Tc fun i j=>.int (i - j)):=acX fun _ _ _ _ _ _ _ q=>sub_int q
theorem adb:rP X (fx .Mult) (rI Ko fun i j=>.int (i * j)):=opI fun _ _ _ _ _ _ _ hc q=>mul_int q hc.ok
theorem ade:rP X (fx .Mod) (rI (fun _ j=>0 < j) fun i j=>.int (i % j)):=opI fun i j _ _ _ _ _ hc q=>by have h1:(0:Int) < j:=hc;exact mod_int' (by lia) (by rw[Int.fmod_eq_emod_of_nonneg i (by lia)];exact q)
theorem adf:rP X (fx .Pow) (rI Td fun i j=>.int (i ^ j.toNat)):=opI fun _ _ _ _ _ _ _ hc q=>pow_int_small hc.1 hc.2.1 hc.2.2 q
theorem adg:rP X (fx .RShift) (rI (fun _ j=>0<=j) fun i j=>.int (i / 2 ^ j.toNat)):=opI fun i j _ _ _ _ _ hc q =>
 rshift_int hc (by rw[sD i (Kq _)];exact q)
theorem adh:rP X (fx .BitAnd) (Tc fun i j=>.int (o_ i j)):=acX fun _ _ _ _ _ _ _ q=>and_int q
theorem unI{f:aa->Sem aa}{g:Int->Int}
  (rule:∀(i:Int) (t:Tok) (s:af) (Q:aa->af->Prop) (E:aa->af->Prop),Q (.int (g i) s.toks) { s with toks:=s.toks + 1 }->aw (ay X.prog X.w) X.A (f (.int i t)) Q E s) :
  UnR X f (rU fun i=>.int (g i)):=by
 intro pins s σ H x v Q I rx h;obtain⟨i,rfl,q⟩:=h;obtain⟨t,rfl⟩:=rx;exact rule i t s _ _ ⟨.int (g i),H,I.tok _,⟨_,rfl⟩,q⟩
theorem adi:UnR X (unaryOp .USub) (rU fun i=>.int (-i)):=unI fun _ _ _ _ _ q=>neg_int q
end
section
variable{X:Cx}{a b c:ag}{ta tb tc:TE}{pos:Pos}
theorem aga:rP X (fy .Lt) (Tc fun i j=>.bl (decide (i < j))):=acY fun _ _ _ _ _ _ _ q=>lt_int q
theorem abK:rP X (fy .Gt) (Tc fun i j=>.bl (decide (j < i))):=acY fun _ _ _ _ _ _ _ q=>gt_int q
theorem agb:rP X (fy .GtE) (Tc fun i j=>.bl (decide (j<=i))):=acY fun _ _ _ _ _ _ _ q=>ge_int q
theorem rP.or{f:aa->aa->Sem aa}{r r':R2}(h:rP X f r)(h':rP X f r'):rP X f (fun x y H Q=>r x y H Q∨r' x y H Q):=by
 intro pins s σ H x y v u Q I rx ry q;rcases q with q|q
 ·exact h pins s σ H x y v u Q I rx ry q
 ·exact h' pins s σ H x y v u Q I rx ry q
theorem qC(b:ag){op:kK}(h:op≠.In:=by decide)(h2:op≠.NotIn:=by decide):gp op b=false:=by
 have e1:(op == kK.In)=false:=by cases op <;> first|rfl|exact absurd rfl h
 have e2:(op == kK.NotIn)=false:=by cases op <;> first|rfl|exact absurd rfl h2
 cases b <;> simp[gp,e1,e2]
theorem Zx{op:kK}{r:R2}(ho:rP X (fy op) r)(ha:PE X a ta)(hb:PE X b tb)(hm:gp op b=false):PE X (.Compare a [op] [b] pos) (tOp r ta tb):=by intro pins s σ H Q I h;exact wpAny_Compare1 (acW ha hb I h fun v u s2 x y H2 I2 rx ry q=>ho pins s2 σ H2 x y v u Q I2 rx ry q) hm
noncomputable def agc(t:TE):TT:=fun σ H Q=>t σ H fun x H'=>∃k,x=.bl k/\Q k H'
theorem DQ{op:kK}{r:R2}(ho:rP X (fy op) r)(ha:PE X a ta)(hb:PE X b tb)(hm:gp op b=false):PT X (.Compare a [op] [b] pos) (agc (tOp r ta tb)):=by
 intro pins s σ H Q I h;refine wpAny_isTrue_Compare1 (jq (ha pins s σ H _ I h) fun v s1 ⟨x,H1,I1,r1,q1⟩=>jq (hb pins s1 σ H1 _ I1 q1) fun u s2 ⟨y,H2,I2,r2,q2⟩ =>
  jq (ho pins s2 σ H2 x y v u _ I2 r1 r2 q2) fun c s3 ⟨z,H3,I3,r3,k,e,q3⟩=>?_) hm
 subst e;cases r3;exact sg ⟨H3,I3,q3⟩
theorem DR:(sizeLine:Nat) < 2 ^ 63:=by rw[d8];decide
theorem Ny{x:V}{us:List aa}(r:Vals [x] us):∃u,us=[u]/\RelV x u:=by
 cases r with
 |cons r1 r2=>cases r2;exact⟨_,rfl,r1⟩
theorem Te{x y:V}{us:List aa}(r:Vals [x,y] us):∃u w',us=[u,w']/\RelV x u/\RelV y w':=by
 cases r with
 |cons r1 r2 =>
  cases r2 with
  |cons r3 r4=>cases r4;exact⟨_,_,rfl,r1,r3⟩
theorem QB(hc:X.calm=true):gZ X (.builtin "max") (fun xs H Q=>∃i j,xs=[.int i,.int j]/\Q (.int (if j > i then j else i)) H):=by
 intro pins s σ H xs us Q I r h;obtain⟨i,j,rfl,q⟩:=h;obtain⟨u,w',rfl,⟨t,rfl⟩,⟨t',rfl⟩⟩:=Te r;refine max_two_ints (I.ok.hd hc) fun h' tk k=>⟨_,H,I.kept k,?_,q⟩
 by_cases hj:j > i
 ·rw[if_pos hj,if_pos hj];exact⟨_,rfl⟩
 ·rw[if_neg hj,if_neg hj];exact⟨_,rfl⟩
theorem QC(hc:X.calm=true):gZ X (.builtin "min") (fun xs H Q=>∃i j,xs=[.int i,.int j]/\Q (.int (if j < i then j else i)) H):=by
 intro pins s σ H xs us Q I r h;obtain⟨i,j,rfl,q⟩:=h;obtain⟨u,w',rfl,⟨t,rfl⟩,⟨t',rfl⟩⟩:=Te r;refine min_two_ints (I.ok.hd hc) fun h' tk k=>⟨_,H,I.kept k,?_,q⟩
 by_cases hj:j < i
 ·rw[if_pos hj,if_pos hj];exact⟨_,rfl⟩
 ·rw[if_neg hj,if_neg hj];exact⟨_,rfl⟩
theorem QD:gZ X (.type "int") (fun xs H Q=>(∃i,xs=[.int i]/\Q (.int i) H)∨∃k,xs=[.bl k]/\Q (.int (if k then 1 else 0)) H):=by
 intro pins s σ H xs us Q I r h;rcases h with ⟨i,rfl,q⟩|⟨k,rfl,q⟩
 ·obtain⟨u,rfl,t,rfl⟩:=Ny r;exact call_int_int ⟨.int i,H,I,⟨_,rfl⟩,q⟩
 ·obtain⟨u,rfl,r1⟩:=Ny r;cases r1;exact call_int_bool ⟨.int (if k then 1 else 0),H,I.tok _,⟨_,rfl⟩,q⟩
end
structure aks (h:aE)(x dx C:ae)(mA:Str->Option aa):Prop where
 obj:h.get? x=some (PySem.W.instObj C dx)
 ns:h.Ns1 dx mA
 ne:dx≠x
section
variable{prog:aS}{w:az}{A:ba}{E:aa->af->Prop}{s:af}{K:ai}{x dx C f:ae}{mA:Str->Option aa}{name:Str}{v:aa}
end
section
variable{P:aS}{w:az}{H H':Hp}{h h':aE}{a C dx:ae}{fs fs':List (Str×V)}
end
structure Cls (K:ai)(C:ae):Prop where
 pg:PySem.W.plainGet K C Str.empty=true
 hd:PySem.W.hasDictIn K C=true
 po:PySem.W.plainOver K C=true
 sa:nB K (.ref C) "__setattr__"=some (some (.builtin "object.__setattr__"))
structure Con (K:ai)(C:ae)(f:Str)(v:V)(u:aa):Prop where
 at_:nB K (.ref C) f=some (some u)
 rel:RelV v u
 get:PySem.W.specialIn K u "__get__"=some none
 cp:PySem.W.copiedNames.contains f=false
structure Meth (K:ai)(C:ae)(m:Str)(f:ae):Prop where
 at_:nB K (.ref C) m=some (some (.ref f))
 fn:PySem.W.isFn K (.ref f)=true
 kp:g9 K (.ref f)=true
section
variable{X:Cx}{pins:List (ae×Obj)}{σ:St}{H:Hp}{s:af}{a C dx:ae}{fs:List (Str×V)}{f:Str}{v:V}{A:ba}{E:aa->af->Prop}
end
section
variable{X:Cx}{o e value:ag}{f:Str}{pos pos' tpos:Pos}{ta tv:TE}
end
section
variable{X:Cx}{pins:List (ae×Obj)}{σ:St}{H:Hp}{s:af}{A:ba}{E:aa->af->Prop}{Q:aa->af->Prop}{c:aa}{b:Bool}
inductive yO (K:ai) (H:Hp):V->aa->Prop where
 |non:yO K H .non (.type "NoneType")
 |bl (x:Bool):yO K H (.bl x) (.type "bool")
 |int (i:Int):yO K H (.int i) (.type "int")
 |str (x:Str):yO K H (.str x) (.type "str")
 |flt (x:UInt64):yO K H (.flt x) (.type "float")
 |lst {a:ae}{xs:List V}(e:H a=some (.lst xs)):yO K H (.ref a) (.type "list")
 |Cd {a:ae}{o:Obj}{xs:List V}(e:H a=some (.Cd o (.lst xs))):yO K H (.ref a) (.type "list")
 |tup {a:ae}{xs:List V}(e:H a=some (.tup xs)):yO K H (.ref a) (.type "tuple")
 |dK {a:ae}{kvs:List (Gy×V)}(e:H a=some (.dK kvs)):yO K H (.ref a) (.type "dict")
 |dT {a:ae}{kvs:List (List Gy×V)}(e:H a=some (.dT kvs)):yO K H (.ref a) (.type "dict")
 |ins {a C dx:ae}{fs:List (Str×V)}(e:H a=some (.ins C dx fs)) (cl:Cls K C) (ha:nB K (.ref C) "__class__"=some (some (.builtin "object.__class__")))
   (hn:PySem.W.specialIn K (.builtin "object.__class__") "__get__"=some (some (.builtin "getset_descriptor.__get__"))) (htk:PySem.W.takesIn K (.builtin "object.__class__")=some true)
   (hm:PySem.W.mroIn K C (.type "object")=some true):yO K H (.ref a) (.ref C)
end
structure jt (k:Nat)(A:ba):Prop where
 hd:A.handled=none
 dp:A.depth + 3 * k + 5 < recursionLimit
 un:A.units + 16 * k + 200 < bu
theorem jt.mono{j k:Nat}{A:ba}(r:jt k A)(h:j<=k):jt j A:=⟨r.hd,by have:=r.dp;lia,by have:=r.un;lia⟩
theorem jt.deeper{k:Nat}{A:ba}(r:jt (k + 1) A)(env:Env):jt k (A.deeper env) :=
 ⟨r.hd,by have:=r.dp;show A.depth + 1 + 3 * k + 5 < _;lia,by have:=r.un;show A.units + 3 + 16 * k + 200 < _;lia⟩
theorem jt.depth{k:Nat}{A:ba}(r:jt k A):A.depth < recursionLimit:=by have:=r.dp;lia
noncomputable def adk:TA:=fun _ H Q=>Q [] H
noncomputable def Tf(ta:TE)(tr:TA):TA:=fun σ H Q=>ta σ H fun x H1=>tr σ H1 fun xs H2=>Q (x::xs) H2
section
variable{X:Cx}{e:ag}{es:List ag}{te:TE}{t:TA}{pos:Pos}
theorem lF:PA X [] adk:=fun _ _ _ _ H Q I h=>Calls.spliced_nil ⟨[],H,I,.nil,h⟩
theorem gj(ha:PE X e te)(hr:PA X es t)(hs:bb (e::es) X.env=(false,bj e X.env)::bb es X.env:=by rfl):PA X (e::es) (Tf te t):=by
 intro pos pins s σ H Q I h;rw[hs];show aw _ _ (spliced ((false,bj e X.env)::cS pos (bb es X.env))) _ _ s;refine Calls.spliced_cons (jq (ha pins s σ H _ I h) fun u s1 fU=>?_);obtain⟨x,H1,I1,r1,q1⟩:=fU;exact jq (hr pos pins s1 σ H1 _ I1 q1) fun us s2 ⟨xs,H2,I2,r2,q2⟩=>⟨x::xs,H2,I2,.cons r1 r2,q2⟩
noncomputable def aiv(t:TA):TE:=fun σ H Q=>t σ H fun xs H1=>xs.length<=sizeLine/\∀p,H1 p=none->Q (.ref p) (upd H1 p (.tup xs))
noncomputable def aiw(t:TA):TE:=fun σ H Q=>t σ H fun xs H1=>xs.length<=sizeLine/\∀p,H1 p=none->Q (.ref p) (upd H1 p (.lst xs))
theorem adl{x1}(h:PA X es t):PE X (.Tuple es x1 pos) (aiv t):=by intro pins s σ H Q I hq;refine wpAny_Tuple_spliced (jq (h pos pins s σ H _ I hq) fun us s1 ⟨xs,H1,I1,r,z,q⟩=>⟨by rw[<- r.length];exact z,?_⟩);have hf:H1 s1.heap.objs.size=none:=I1.hok.fresh (bE _);refine⟨.ref s1.heap.objs.size,upd H1 s1.heap.objs.size (.tup xs),I1.laid (t':=s1.toks) (fun b u e=>cy _ e) (bE _) ?_,rfl,q _ hf⟩;exact⟨z,us,r,⟨_,dA _ rfl,rfl,_,rfl⟩⟩
theorem Ti(h:PA X es t):PE X (.List es pos) (aiw t):=by intro pins s σ H Q I hq;refine wpAny_List_spliced (jq (h pos pins s σ H _ I hq) fun us s1 ⟨xs,H1,I1,r,z,q⟩=>⟨by rw[<- r.length];exact z,?_⟩);have hf:H1 s1.heap.objs.size=none:=I1.hok.fresh (bE _);refine⟨.ref s1.heap.objs.size,upd H1 s1.heap.objs.size (.lst xs),I1.laid (t':=s1.toks) (fun b u e=>cy _ e) (bE _) ?_,rfl,q _ hf⟩;exact⟨z,us,0,r,dA _ rfl⟩
end
noncomputable abbrev Sp:=List V->Hp->VK->XK->Prop
noncomputable abbrev Tj:=List Env->Hp->af->XK->aa->af->Prop
structure Tn (P:aS)(w:az)(K:ai)(mg:Str->Option aa)(base:aE)(A:ba)(outer:List Env)(s:af)(H:Hp):Prop where
 frames:A.frames=some outer
 mod:Mod K mg base
 bs:∀b o,base.get? b=some o->s.heap.get? b=some o/\H b=none
 bsz:base.objs.size<=s.heap.objs.size
 yI:s.heap.FunFrames base outer
 frf:∀b∈uO outer,H b=none
 hok:xK P w H s.heap
 bare:iS s.gens
noncomputable def CE(outer:List Env)(P:aS)(w:az)(H:Hp)(s:af)(Q:VK)(u:aa)(s':af):Prop :=
 ∃v H',s'.os=s.os/\iS s'.gens/\Un (uO outer) [] H H' s.heap s'.heap/\xK P w H' s'.heap/\RelV v u/\Q v H'
noncomputable def CR(CX:Tj)(outer:List Env)(P:aS)(w:az)(H:Hp)(s:af)(Q:VK)(E:XK)(r:Result)(s':af):Prop :=
 match r with
 | .ok (.ret u)=>CE outer P w H s Q u s'
 | .ok _=>False
 | .error e=>CX outer H s E e s'
structure qD (P:aS)(w:az)(K:ai)(mg:Str->Option aa)(base:aE)(CX:Tj)(k:Nat)(f:ae)(fd:df)(ps:List Str)(sp:Sp):Prop where
 len:∀vs H Q E,sp vs H Q E->vs.length=ps.length
 run:∀(A:ba) (outer:List Env) (s:af) (H:Hp) (args:Args) (us:List aa) (vs:List V) (Q:VK) (E:XK),jt k A->Tn P w K mg base A outer s H->iX s fd args (ps.zip us)->Vals vs us->sp vs H Q E ->
  i4 (ay P w) A (.call (.ref f) args) (CR CX outer P w H s Q E) s
theorem qD.imp{P:aS}{w:az}{K:ai}{mg:Str->Option aa}{base:aE}{CX:Tj}{k:Nat}{f:ae}{fd:df}{ps:List Str}{sp sp':Sp}(F:qD P w K mg base CX k f fd ps sp)
  (h:∀vs H Q E,sp' vs H Q E->sp vs H Q E):qD P w K mg base CX k f fd ps sp' :=
 ⟨fun vs H Q E q=>F.len vs H Q E (h _ _ _ _ q),fun A outer s H args us vs Q E hr he hb hv hs=>F.run A outer s H args us vs Q E hr he hb hv (h _ _ _ _ hs)⟩
section
variable{X:Cx}{pins:List (ae×Obj)}{σ:St}{H:Hp}{s s':af}
theorem Inv.env0(I:Inv X pins σ H s):Tn X.prog X.w X.K X.mg X.base X.A X.stack s H :=
 ⟨I.ok.frames,I.ok.mod,I.bs,cx I.ok.bsz I.sz,I.stack,I.Dy,I.hok,I.bare⟩
theorem Inv.after{Q:VK}{u:aa}(I:Inv X pins σ H s)(h:CE X.stack X.prog X.w H s Q u s'):EP X pins σ Q u s':=by obtain⟨v,H',os,bare,un,hok,r,q⟩:=h;obtain⟨hh,g,d,t,os'⟩:=s';obtain rfl:os'=s.os:=os;exact⟨v,H',I.call (h':=hh) (g':=g) (d':=d) (t':=t) (ch:=[]) un hok bare (fun b z=>absurd z (by simp)),r,q⟩
end
noncomputable def Binds(K:ai)(fd:df)(ps:List Str)(ds:List aa):Prop :=
 ∀(s:af) (us:List aa),K.In s.heap->(us++ds).length=ps.length->iX s fd ⟨us,[]⟩ (ps.zip (us++ds))
theorem Binds.all{K:ai}{fd:df}{ps:List Str}(h:∀us:List aa,us.length=ps.length->bindArgs fd ⟨us,[]⟩=pure (ps.zip us)):Binds K fd ps []:=fun s us _ hl=>by rw[dP]at hl ⊢;exact .of_eq (h us hl)
section
variable{X:Cx}{CX:Tj}{k:Nat}{f C:ae}{fd:df}{ps:List Str}{sp:Sp}{dvs:List V}{ds:List aa}{E:XK}{x m:Str}{p pos apos:Pos}{e o:ag}{es:List ag}{ta:TE}{t:TA}
structure Mk (K:ai)(C f:ae):Prop where
 makes:PySem.W.makesIn K C=true
 init:nB K (.ref C) "__init__"=some (some (.ref f))
 fn:PySem.W.isFn K (.ref f)=true
 kp:g9 K (.ref C)=true
end
section
variable{X:Cx}{CX:Tj}{k:Nat}{f C:ae}{fd:df}{ps ks:List Str}{sp:Sp}{E:XK}{x m:Str}{p pos apos kpos:Pos}{e o:ag}{es:List ag}{kws:List fE}{te ta:TE}{t tk:TA}{nm:Option Str}
structure aix (K:ai)(fd:df)(ps ks:List Str)(g:List aa->List aa->List aa)(gV:List V->List V->List V):Prop where
 to:∀(s:af) (us ws:List aa),K.In s.heap->(g us ws).length=ps.length->iX s fd ⟨us,ks.zip ws⟩ (ps.zip (g us ws))
 rel:∀{vs:List V}{us:List aa}{zs:List V}{ws:List aa},Vals vs us->Vals zs ws->Vals (gV vs zs) (g us ws)
variable{g:List aa->List aa->List aa}{gV:List V->List V->List V}
end
structure bF (N P:List Str)(sc:Scope):Prop where
 kind:sc.kind=.function
 co:sc.isCoroutine=false
 gen:sc.isGenerator=false
 nd:N.Nodup
 pre:N.take P.length=P
 par:∀x∈P,sc.names.lookup x=some .local∨sc.names.lookup x=some .cell
 adn:∀y∈sc.names,y.2≠.free
theorem Cj{kindOf:Str->Option ez}{x:Str}:∀{binds:List (Str×aa)}{m:Str->Option aa},(∀v,(x,v)∉binds)->j0 kindOf binds m x=m x
 | [],_,_=>rfl
 | (n,v)::r,m,h=>by
  unfold j0;rw[Cj fun w hw=>h w (fv _ hw)];split
  ·have:x≠n:=by rintro rfl;exact h v eR
   simp[this]
  ·rfl
theorem Ck{kindOf:Str->Option ez}{x:Str}:∀{binds:List (Str×aa)}{m:Str->Option aa},(∀v,(x,v)∉binds)->j3 kindOf binds m x=m x
 | [],_,_=>rfl
 | (n,v)::r,m,h=>by
  unfold j3;rw[Ck fun w hw=>h w (fv _ hw)];split
  ·rfl
  ·have:x≠n:=by rintro rfl;exact h v eR
   simp[this]
theorem Cm{kindOf:Str->Option ez}{x:Str}{v:aa}:∀{P:List Str}{vs:List aa}{i:Nat}{m:Str->Option aa},P.Nodup->P[i]?=some x->vs[i]?=some v->kindOf x=some .local ->
  j0 kindOf (P.zip vs) m x=some v
 | [],_,_,_,_,h,_,_=>by simp at h
 |_::_,[],_,_,_,_,h,_=>by simp at h
 |p::P,w::vs,0,m,nd,h1,h2,hk=>by simp at h1 h2;subst h1;subst h2;show j0 kindOf ((p,w)::P.zip vs) m p=_;unfold j0;rw[Cj fun v hv=>(g_.mp nd).1 (sF hv).1,if_pos hk];simp
 |p::P,w::vs,i + 1,m,nd,h1,h2,hk=>by show j0 kindOf ((p,w)::P.zip vs) m x=_;unfold j0;exact Cm (i:=i) (g_.mp nd).2 (by simpa using h1) (by simpa using h2) hk
theorem Cp{kindOf:Str->Option ez}{x:Str}{v:aa}:∀{P:List Str}{vs:List aa}{i:Nat}{m:Str->Option aa},P.Nodup->P[i]?=some x->vs[i]?=some v->kindOf x≠some .local ->
  j3 kindOf (P.zip vs) m x=some v
 | [],_,_,_,_,h,_,_=>by simp at h
 |_::_,[],_,_,_,_,h,_=>by simp at h
 |p::P,w::vs,0,m,nd,h1,h2,hk=>by simp at h1 h2;subst h1;subst h2;show j3 kindOf ((p,w)::P.zip vs) m p=_;unfold j3;rw[Ck fun v hv=>(g_.mp nd).1 (sF hv).1,if_neg hk];simp
 |p::P,w::vs,i + 1,m,nd,h1,h2,hk=>by show j3 kindOf ((p,w)::P.zip vs) m x=_;unfold j3;exact Cp (i:=i) (g_.mp nd).2 (by simpa using h1) (by simpa using h2) hk
noncomputable def start(N:List Str)(vs:List V):St:=vs.map some++fR (N.length - vs.length) none
noncomputable def qt(CX:Tj)(P:aS)(w:az)(K:ai)(mg:Str->Option aa)(base:aE)(N:List Str)(qual:Str)(scope:Scope)(f:ae)(cd:aa)(A:ba)(outer:List Env)(s:af)(H:Hp)(E:XK):Cx where
 prog:=P
 w:=w
 K:=K
 mg:=mg
 base:=base
 A:=A.deeper (j4 qual scope s.heap.objs.size f cd)
 N:=N
 s₀:=s
 H₀:=H
 env:=j4 qual scope s.heap.objs.size f cd
 outer:=outer
 stack:=j4 qual scope s.heap.objs.size f cd::outer
 ex:=[]
 calm:=true
 fn:=fun _=>true
 pn:=[]
 xe:=fun e s'=>aw (ay P w) (A.deeper (j4 qual scope s.heap.objs.size f cd)) (leaving (j4 qual scope s.heap.objs.size f cd) e) (fun _ s''=>CX outer H s E e s'') (fun e' s''=>CX outer H s E e' s'') s'
theorem Hi{sc:Scope}{n:Nat}{x:Str}(h:sc.names.lookup x=some .cell):∃c,(cellsFrom n sc.names []).lookup x=some c:=by have q:=PySem.W.cellsFrom_some sc.names n [] (.inl h);exact Option.isSome_iff_exists.mp q
theorem QF{CX:Tj}{P:aS}{w:az}{K:ai}{mg:Str->Option aa}{base:aE}{N ps:List Str}{qual:Str}{scope:Scope}{f:ae}{cd:aa}{A:ba}{outer:List Env}{s s1:af}{H:Hp}{E:XK}{us:List aa}{vs:List V}
  (S:bF N ps scope) (hd:A.handled=none) (e0:Tn P w K mg base A outer s H) (hl:vs.length=ps.length) (r:Vals vs us)
  (x:InCallC s s.heap.objs.size (j0 (j4 qual scope s.heap.objs.size f cd).kindOf (ps.zip us) fun _=>none) (cellsFrom (s.heap.objs.size + 1) scope.names []) (j3 (j4 qual scope s.heap.objs.size f cd).kindOf (ps.zip us) fun _=>none) s1) :
  Inv (qt CX P w K mg base N qual scope f cd A outer s H E) [] (start N vs) H s1:=by
 have hpl:ps.length<=N.length:=by have:=congrArg ip S.pre;rw[i5]at this;lia
 obtain⟨h1,tk,rfl,hk⟩:=x.done;have Ze:∀b:ae,b∉(qt CX P w K mg base N qual scope f cd A outer s H E).ex:=fun b z=>absurd (show b∈([]:List ae) from z) (by simp);refine⟨⟨e0.mod,S.kind,rfl,rfl,bE _,fun y z c h1 h2=>?_,fun y hy=>?_,fun y c _ h=>?_,fun _=>hd,ba.frames_deeper e0.frames,.inr ⟨rfl,rfl⟩,fun b z=>absurd z (Ze b),e0.bs,e0.bsz,fun b _ _=>Ze b,fun b z=>absurd z (Ze b),e0.yI,e0.frf⟩,
  rfl,e0.bare,Un.kept hk,⟨_,x.toInCall.ns,fun i y v h1 h2 h3=>?_⟩,fun y c h=>⟨_,x.cell y c h⟩,e0.hok.fresh (bE _),fun y c h=>?_,fun p hp=>absurd (show p∈([]:List (ae×Obj)) from hp) (by simp),e0.hok.kept hk,?_⟩
 ·exact name_of_addr x.apart (i6 h1) (i6 h2)
 ·have hy:scope.names.lookup y=some .cell∨scope.names.lookup y=some .free:=hy;rcases hy with hy|hy
  ·exact Hi hy
  ·exact absurd rfl (S.adn _ (i6 hy))
 ·exact gm (x.above y c (i6 h))
 ·have hi:i < vs.length:=by
   unfold start at h2;by_cases hi:i < vs.length
   ·exact hi
   ·rw[gr (by simpa using hi)]at h2;rw[j5]at h2;split at h2 <;> cases h2
  have ha:vs[i]?=some v:=by
   unfold start at h2;rw[eT (by simpa using hi),di]at h2;cases e:vs[i]? with
   |none=>rw[e]at h2;cases h2
   |some a=>rw[e]at h2;cases h2;rfl
  obtain⟨u,hu,rv⟩:=r.get ha;have hp:ps[i]?=some y:=by rw[<- S.pre,l4 (by lia)];exact h1
  have ndP:ps.Nodup:=by rw[<- S.pre];exact S.nd.sublist (nE _ _)
  refine⟨u,rv,?_⟩;rcases S.par y (i7 hp) with k|k
  ·exact .inl ⟨k,Cm ndP hp hu k⟩
  ·obtain⟨c,e⟩:=Hi (n:=s.heap.objs.size + 1) k;refine .inr ⟨.inl k,c,e,?_⟩;have q:=x.cell y c e;rw[Cp ndP hp hu (by show scope.names.lookup y≠_;rw[k];decide)]at q;exact q
 ·exact e0.hok.fresh (gm (x.above y c (i6 h)))
 ·unfold start;show _=N.length;rw[dn,cn,nI];lia
theorem Nz{CX:Tj}{P:aS}{w:az}{K:ai}{mg:Str->Option aa}{base:aE}{k:Nat}{f:ae}{name qual:Str}{params:Arguments}{body:List bg}{scope:Scope}{dV kV doc pm cdv ct oc:aa}{an od:Option ae}
  {osl:Array (Option aa)}{N ps:List Str}{sp:Sp}(lk:K.lookup f=some ⟨oc,od,.func (iq name qual params body scope dV kV doc pm an cdv ct),osl⟩) (hcd:nK K cdv qual=true) (S:bF N ps scope)
  (len:∀vs H Q E,sp vs H Q E->vs.length=ps.length)
  (hbody:∀(A:ba) (outer:List Env) (s:af) (H:Hp) (vs:List V) (Q:VK) (E:XK),jt k (A.deeper (j4 qual scope s.heap.objs.size f cdv))->xK P w H s.heap->sp vs H Q E ->
   ∃t,DG (qt CX P w K mg base N qual scope f cdv A outer s H E) body t/\t { nx:=fun _ H'=>Q .non H',rt:=Q } (start N vs) H) :
  qD P w K mg base CX (k + 1) f (iq name qual params body scope dV kV doc pm an cdv ct) ps sp:=by
 refine⟨len,fun A outer s H args us vs Q E hr e0 hb r hsp=>?_⟩;have hl:=len _ _ _ _ hsp;have KX:K.In s.heap:=e0.mod.RN.keeps fun b o e=>(e0.bs b o e).1;have lim:s.heap.NoLimit:=e0.mod.nolimit.keeps fun b o e=>(e0.bs b o e).1;have hkind:∀y∈ps.zip us,scope.names.lookup y.1=some .local∨(scope.names.lookup y.1=some .cell/\((cellsFrom (s.heap.objs.size + 1) scope.names []).lookup y.1).isSome=true):=fun⟨n,v⟩ hy=>by
  rcases S.par n (sF hy).1 with q|q
  ·exact .inl q
  ·exact .inr ⟨q,PySem.W.cellsFrom_some _ _ _ (.inl q)⟩
 refine codeAny_call_function hr.depth (KX _ _ lk) rfl S.co S.gen rfl (PySem.W.codeRec_of KX hcd) (hb _ _ _ _ ?_);refine wpAny_newFunctionEnv_cells S.kind hkind fun env he s1 x=>?_;subst he;refine⟨lim.keeps x.toInCall.keep,codeAny_func ?_⟩;obtain⟨t,ht,hq⟩:=hbody A outer s H vs Q E (hr.deeper _) e0.hok hsp;have I:Inv (qt CX P w K mg base N qual scope f cdv A outer s H E) [] (start N vs) H s1:=QF S hr.hd e0 hl r x;refine d6 (ht [] s1 (start N vs) H _ I hq) (fun fl s' hs=>?_) fun e s' hs=>hs;have fQ:∀{σ':St}{H':Hp}{v:V}{u:aa},Inv (qt CX P w K mg base N qual scope f cdv A outer s H E) [] σ' H' s'->RelV v u->Q v H'->CE outer P w H s Q u s' :=
  fun {σ' H' v u} J rv q=>⟨v,H',J.os,J.bare,J.base,J.hok,rv,q⟩
 cases fl with
 |ret u =>
  obtain⟨v,σ',H',J,rv,q⟩:=hs;exact fQ J rv q
 |next =>
  obtain⟨σ',H',J,q⟩:=hs;exact fQ (v:=V.non) (u:=aa.none) J rfl q
 |brk =>
  obtain⟨_,_,_,q⟩:=hs;exact eM q
 |cont =>
  obtain⟨_,_,_,q⟩:=hs;exact eM q
section
variable{X:Cx}{x:Str}{p pos:Pos}{e:ag}{es:List ag}{t:TA}{id T:String}{r:List V->Hp->VK->Prop}
noncomputable def tCB(r:List V->Hp->VK->Prop)(t:TA):TE:=fun σ H Q=>t σ H fun vs H1=>r vs H1 Q
theorem qF(hc:gZ X (.builtin id) r) (hg:Gl X x) (hm:X.mg x=none) (hv:il x=some (.builtin id)) (ha:PA X (e::es) t) (hn:x≠"__name__":=by decide) (hdb:qx x:=by decide)
  (he:bb (e::es) X.env=(false,bj e X.env)::bb es X.env:=by rfl) (hpl:(cS pos (bb es X.env)).any (·.1)=false:=by rfl):PE X (.Call (.Name x p) (e::es) [] pos) (tCB r t):=by
 intro pins s σ H Q I h;refine nL (yM I hg hm hv ?_ hn hdb);exact PyProof.Rows.callWith_builtin1 (jq (ha pos pins s σ H _ I h) fun us s1 ⟨vs,H1,I1,r1,q1⟩=>hc pins s1 σ H1 vs us Q I1 r1 q1) he hpl
theorem Cq(hc:gZ X (.type T) r) (hg:Gl X x) (hm:X.mg x=none) (hv:il x=some (.type T)) (ha:PA X (e::es) t) (hn:x≠"__name__":=by decide) (hdb:qx x:=by decide)
  (he:bb (e::es) X.env=(false,bj e X.env)::bb es X.env:=by rfl) (hpl:(cS pos (bb es X.env)).any (·.1)=false:=by rfl):PE X (.Call (.Name x p) (e::es) [] pos) (tCB r t):=by
 intro pins s σ H Q I h;refine nL (yM I hg hm hv ?_ hn hdb);exact sC (jq (ha pos pins s σ H _ I h) fun us s1 ⟨vs,H1,I1,r1,q1⟩=>hc pins s1 σ H1 vs us Q I1 r1 q1) he hpl
end
end L2
namespace HT
open PySem PyProof.Rows
section
open PySem.SeqAt
open PySem.AutoSeq1 (wpAny_loadPart')
open PySem.MeetsSeq PySem.MeetsSeq2 PySem.MeetsSeq3
end
section
variable{prog:aS}{w:az}{A:ba}{E:aa->af->Prop}{s:af}
theorem Zy{t b:ae}{vs ws:List aa}{Q:aa->af->Prop}(ht:kB s.heap t vs.toArray)(hb:kB s.heap b ws.toArray)(hv:vs≠[])
  (h1:ws=[]->Q (.ref t) s) (h2:ws≠[]->Q (.ref s.heap.objs.size) { s with heap:=s.heap.push { cls:=.type "tuple",data:=.seq (vs++ws).toArray } })
  (hsz:vs.length + ws.length<=sizeLine):aw (ay prog w) A (fx .Add (.ref t) (.ref b)) Q E s:=by
 obtain⟨⟨cls,dd,data,sl⟩,ho,hc,n,hd⟩:=id ht;obtain⟨⟨cls2,dd2,data2,sl2⟩,ho2,hc2,n2,hd2⟩:=id hb;simp only at hc hd hc2 hd2;subst hc hd hc2 hd2;have e:vs.toArray++ws.toArray=(vs++ws).toArray:=by simp
 by_cases hw:ws=[]
 ·exact pd ⟨_,ho,rfl⟩ ⟨_,ho2,rfl⟩ sL sM sN sP (sQ _ _)
   (tuple_addW1 t b vs.toArray ws.toArray n n2 dd dd2 sl sl2 (by simpa using hv) (by simp[hw])) ⟨ho,ho2,h1 hw⟩
 ·refine pd ⟨_,ho,rfl⟩ ⟨_,ho2,rfl⟩ sL sM sN sP (sQ _ _)
   (tuple_addW2 t b vs.toArray ws.toArray n n2 dd dd2 sl sl2 (by simpa using hv) (by simpa using hw) (by rw[dk,dk];exact hsz)) ⟨ho,ho2,?_⟩
  rw[e];exact h2 hw
noncomputable def GD(n d:Nat):Option Int->Nat
 |none=>d
 |some v=>if v < 0 then (v + (n:Int)).toNat else min v.toNat n
end
end HT
namespace L2
open PySem PySem.Spec PyProof.Rows
noncomputable abbrev TO:=St->Hp->(Option Int->Hp->Prop)->Prop
noncomputable def PO(X:Cx)(e:Option ag)(t:TO):Prop :=
 ∀(pins:List (ae×Obj)) (s:af) (σ:St) (H:Hp) (Q:Option Int->Hp->Prop),Inv X pins σ H s->t σ H Q ->
  aw (ay X.prog X.w) X.A (evalPart e X.env) (fun u s'=>∃o H',Inv X pins σ H' s'/\IsPart u o/\Q o H') X.xe s
noncomputable def agd(t:TE):TO:=fun σ H Q=>t σ H fun x H1=>∃i,x=.int i/\Q (some i) H1
theorem Kr{ns:List Int}:∀{us:List aa},Vals (ns.map V.int) us->l5 us ns:=by
 induction ns with
 |nil=>intro us r;rw[gu]at r;cases r;exact .nil
 |cons n ns ih =>
  intro us r;rw[bX]at r;cases r with
  |cons r1 r2 =>
   obtain⟨t,e⟩:=r1;subst e;exact .cons n t (ih r2)
section
variable{X:Cx}{e:ag}{te:TE}{lo hi:Option ag}{tl th:TO}{pos p2:Pos}
theorem Zz(h:PE X e te):PO X (some e) (agd te):=by intro pins s σ H Q I hw;rw[evalPart_some];refine jq (h pins s σ H _ I hw) fun u s1 fU=>?_;obtain⟨x,H1,I1,r1,q1⟩:=fU;obtain⟨i,rfl,q⟩:=q1;obtain⟨t,rfl⟩:=r1;exact⟨some i,H1,I1,.int i t,q⟩
noncomputable def SlR(X:Cx)(r:V->Option Int->Option Int->Hp->VK->Prop):Prop :=
 ∀(pins:List (ae×Obj)) (s:af) (σ:St) (H:Hp) (x:V) (v vl vu:aa) (lo hi:Option Int) (sl:ae) (Q:VK),Inv X pins σ H s->RelV x v->s.heap.IsSliceOf sl vl vu .none->IsPart vl lo->IsPart vu hi->r x lo hi H Q ->
  ∃T id,typeLookup (.type T) "__getitem__"=pure (some (.builtin id))/\s.TypeIs v T/\aw (ay X.prog X.w) X.A (getItem v (.ref sl)) (EP X pins σ Q) X.xe s
noncomputable def tSl(r:V->Option Int->Option Int->Hp->VK->Prop)(te:TE)(tl th:TO):TE:=fun σ H Q=>te σ H fun x H1=>tl σ H1 fun l H2=>th σ H2 fun u H3=>r x l u H3 Q
theorem Tp{r:V->Option Int->Option Int->Hp->VK->Prop}(hr:SlR X r)(he:PE X e te)(hl:PO X lo tl)(hu:PO X hi th):PE X (.Subscript e (.Slice lo hi none p2) pos) (tSl r te tl th):=by intro pins s σ H Q I h;refine Subscript_ (jq (he pins s σ H _ I h) fun v s1 fU=>?_);obtain⟨x,H1,I1,r1,q1⟩:=fU;refine wpAny_Slice (jq (hl pins s1 σ H1 _ I1 q1) fun vl s2 ⟨l,H2,I2,pl,q2⟩=>jq (hu pins s2 σ H2 _ I2 q2) fun vu s3 fU=>?_);obtain⟨u,H3,I3,pu,q3⟩:=fU;rw[evalPart_none];refine aT ?_;have I4:Inv X pins σ H3 { s3 with heap:=s3.heap.push { cls:=.type "slice",data:=.fields #[vl,vu,.none] } }:=I3.kept (t':=s3.toks) fun b ob q=>cy _ q;obtain⟨T,id,hT,ht,hg⟩:=hr pins { s3 with heap:=s3.heap.push { cls:=.type "slice",data:=.fields #[vl,vu,.none] } } σ H3 x v vl vu l u s3.heap.objs.size Q I4 r1 (aE.IsSliceOf.new ..) pl pu q3;show aw (ay X.prog X.w) X.A (subscriptTail e (.Slice lo hi none p2) v (.ref s3.heap.objs.size)) (EP X pins σ Q) X.xe { s3 with heap:=s3.heap.push { cls:=.type "slice",data:=.fields #[vl,vu,.none] } };exact tail_any (ops:=[.ref s3.heap.objs.size,v]) ht hT hg (by with_unfolding_all rfl)
noncomputable def Ks(xs:List V)(lo hi:Option Int):List V:=(xs.drop (HT.GD xs.length 0 lo)).take (HT.GD xs.length xs.length hi - HT.GD xs.length 0 lo)
theorem Hj(xs:List V)(lo hi:Option Int):(Ks xs lo hi).length<=xs.length:=by unfold Ks;rw[i5,l6];lia
noncomputable def abL(K:ai):R2:=fun x y H Q=>∃a b xs ys,x=.ref a/\y=.ref b/\mX K H a xs/\mX K H b ys/\xs≠[]/\xs.length + ys.length<=sizeLine /\
 (ys=[]->Q (.ref a) H)/\(ys≠[]->∀p,H p=none->Q (.ref p) (upd H p (.tup (xs++ys))))
theorem Vals.DW{xs:List V}{us:List aa}(r:Vals xs us):us=[]↔xs=[]:=by
 cases r with
 |nil=>simp
 |cons _ _=>simp
theorem ZC:rP X (fx .Add) (abL X.K):=by intro pins s σ H x y v u Q I rx ry h;obtain⟨a,b,xs,ys,rfl,rfl,ha,hb,hx,hz,q1,q2⟩:=h;cases rx;cases ry;obtain⟨its,r1,p1,_⟩:=I.tuple ha;obtain⟨its2,r2,p2,_⟩:=I.tuple hb;refine HT.Zy p1 p2 (fun z=>hx (r1.DW.mp z)) (fun z=>⟨.ref a,H,I,rfl,q1 (r2.DW.mp z)⟩) (fun z=>?_) (by rw[<- r1.length,<- r2.length];exact hz);refine⟨.ref s.heap.objs.size,_,I.laid (t':=s.toks) (o:=.tup (xs++ys)) (fun b ob q=>cy _ q) (bE _) ?_,rfl,q2 (fun w=>z (r2.DW.mpr w)) _ (I.hok.fresh (bE _))⟩;exact⟨by rw[dn];exact hz,_,r1.append r2,kB.new _ _⟩
end
noncomputable def NK(n:Nat)(i:Int):Option Nat:=if 0<=i then (if i < n then some i.toNat else none) else if-(n:Int)<=i then some (i + n).toNat else none
noncomputable def xO{α:Type}(xs:List α)(i:Int):Option α:=(NK xs.length i).bind fun j=>xs[j]?
theorem ZD{n:Nat}{i:Int}{j:Nat}(h:NK n i=some j):seqIndex? i n=some j/\j < n/\-(n:Int)<=i/\i < n:=by
 unfold NK at h;by_cases h0:0<=i
 ·rw[if_pos h0]at h;by_cases h1:i < n
  ·rw[if_pos h1]at h;have e:i.toNat=j:=et h;exact⟨by rw[seqIndex_of h0 h1,e],by lia,by lia,h1⟩
  ·rw[if_neg h1]at h;cases h
 ·rw[if_neg h0]at h;by_cases h1:-(n:Int)<=i
  ·rw[if_pos h1]at h;have e:(i + n).toNat=j:=et h;exact⟨by rw[seqIndex_neg (by lia) h1,e],by lia,h1,by lia⟩
  ·rw[if_neg h1]at h;cases h
theorem DX{α:Type}{xs:List α}{i:Int}{v:α}(h:xO xs i=some v):∃j,seqIndex? i xs.length=some j/\xs[j]?=some v/\j < xs.length/\-(xs.length:Int)<=i/\i < xs.length:=by
 unfold xO at h;cases e:NK xs.length i with
 |none=>rw[e]at h;cases h
 |some j =>
  rw[e]at h;obtain⟨h1,h2,h3,h4⟩:=ZD e;exact⟨j,h1,h,h2,h3,h4⟩
noncomputable def NP(b:ag):Prop:=∀o i,subscripted b false o i=operate [o,i] (getItem o i)
noncomputable def ZF(X:Cx)(r:R2):Prop :=
 ∀(value slice:ag) (pins:List (ae×Obj)) (s:af) (σ:St) (H:Hp) (x y:V) (v u:aa) (Q:VK),Inv X pins σ H s->RelV x v->RelV y u->r x y H Q ->
  subscripted slice false v u=operate [v,u] (getItem v u)->aw (ay X.prog X.w) X.A (subscriptTail value slice v u) (EP X pins σ Q) X.xe s
noncomputable def MtR(X:Cx)(id:String)(r:V->List V->Hp->VK->Prop):Prop :=
 ∀(pins:List (ae×Obj)) (s:af) (σ:St) (H:Hp) (x:V) (xs:List V) (v:aa) (us:List aa) (Q:VK),Inv X pins σ H s->RelV x v->Vals xs us->r x xs H Q ->
  aw (ay X.prog X.w) X.A (call (.builtin id) (v::us)) (EP X pins σ Q) X.xe s
section
variable{X:Cx}{a b:ag}{ta tb:TE}{pos:Pos}
theorem ZF.or{r r':R2}(h:ZF X r)(h':ZF X r'):ZF X (fun x y H Q=>r x y H Q∨r' x y H Q):=by
 intro value slice pins s σ H x y v u Q I rx ry q hs;rcases q with q|q
 ·exact h value slice pins s σ H x y v u Q I rx ry q hs
 ·exact h' value slice pins s σ H x y v u Q I rx ry q hs
theorem agf{r:R2}(hr:ZF X r)(ha:PE X a ta)(hb:PE X b tb)(hs:NP b):PE X (.Subscript a b pos) (tOp r ta tb):=by intro pins s σ H Q I h;exact Subscript_ (acW ha hb I h fun v u s2 x y H2 I2 rx ry q=>hr a b pins s2 σ H2 x y v u Q I2 rx ry q (hs _ _))
noncomputable def agg(K:ai):R2:=fun x y H Q=>∃p xs i v,x=.ref p/\y=.int i/\qp K H p xs/\xO xs i=some v/\Q v H
noncomputable def agh(K:ai):R2:=fun x y H Q=>∃p xs i v,x=.ref p/\y=.int i/\mX K H p xs/\xO xs i=some v/\Q v H
noncomputable def agi:R2:=fun x y H Q=>∃z i c,x=.str z/\y=.int i/\z.length<=sizeLine/\xO z.cps.toList i=some c/\Q (.str ⟨#[c]⟩) H
theorem ZG:ZF X (agg X.K):=by
 intro value slice pins s σ H x y v u Q I rx ry h hs;obtain⟨p,xs,i,z,rfl,rfl,hq,he,q⟩:=h;cases rx;obtain⟨t,rfl⟩:=ry;obtain⟨its,r,pl,hz⟩:=I.list hq;obtain⟨j,h1,h2,h3,h4,h5⟩:=DX he;obtain⟨w,ew,rw'⟩:=r.get h2;have hl:=r.length;have hn:=DR;have fQ:EP X pins σ Q w s:=⟨z,H,I,rw',q⟩
 by_cases h0:0<=i
 ·have hj:i.toNat=j:=by rw[seqIndex_of h0 h5]at h1;exact et h1
  exact item_listR pl.isList h0 (by lia) (by rw[hj];simpa using ew) fQ hs
 ·have hj:(i + (its.toArray.size:Int)).toNat=j:=by rw[seqIndex_neg (by lia) h4]at h1;rw[dk,<- hl];exact et h1
  exact subscriptTail_builtinR (x:=w) pl.isList.typeIs slot_list_getitem.lookup
   (wpAny_getItem_list_neg (Q:=fun r s'=>r=w/\EP X pins σ Q r s') pl.isList (by lia) (by rw[dk] <;> lia) (by lia) (by rw[hj];simpa using ew) ⟨rfl,fQ⟩) hs
theorem Tq:ZF X (agh X.K):=by
 intro value slice pins s σ H x y v u Q I rx ry h hs;obtain⟨p,xs,i,z,rfl,rfl,hq,he,q⟩:=h;cases rx;obtain⟨t,rfl⟩:=ry;obtain⟨its,r,pl,hz⟩:=I.tuple hq;obtain⟨j,h1,h2,h3,h4,h5⟩:=DX he;obtain⟨w,ew,rw'⟩:=r.get h2;have hl:=r.length;have hn:=DR;have fQ:EP X pins σ Q w s:=⟨z,H,I,rw',q⟩
 exact subscriptTail_builtinR (x:=w) pl.typeIs slot_tuple_getitem.lookup
  (getItem_tuple (j:=j) (Q:=fun r s'=>r=w/\EP X pins σ Q r s') pl (by lia) (by lia) (by rw[dk,<- hl];exact h1) (by simpa using ew) ⟨rfl,fQ⟩) hs
theorem adp:ZF X agi:=by
 intro value slice pins s σ H x y v u Q I rx ry h hs;obtain⟨z,i,c,rfl,rfl,hz,he,q⟩:=h;obtain⟨t,rfl⟩:=rx;obtain⟨t',rfl⟩:=ry;obtain⟨j,h1,h2,h3,h4,h5⟩:=DX he;have hl:z.cps.toList.length=z.length:=by simp[Str.length]
 rw[hl]at h1 h4 h5;have hn:=DR;exact tail_any (typeIs_str s z t) slot_str_getitem.lookup (getItem_str (c:=c) (by
  have e1:decide (i < -(2 ^ 63:Int))=false:=decide_eq_false (by lia);have e2:decide (i ≥ 2 ^ 63)=false:=decide_eq_false (by lia);rw[e1,e2,Bool.or_false]) (by rw[h1];simpa using h2) ⟨.str ⟨#[c]⟩,H,I.tok _,⟨_,rfl⟩,q⟩) hs
noncomputable def rIx(K:ai):R2:=fun x y H Q=>agg K x y H Q∨agh K x y H Q∨agi x y H Q
theorem adq:ZF X (rIx X.K):=ZG.or (Tq.or adp)
theorem DY(lo hi:Option Int)(n:Nat):(kL lo hi none n).1=((HT.GD n 0 lo:Nat):Int)/\(kL lo hi none n).2.1=((HT.GD n n hi:Nat):Int)/\(kL lo hi none n).2.2=1:=by
 refine⟨?_,?_,rfl⟩
 ·cases lo with
  |none=>simp[kL,HT.GD]
  |some i =>
   simp only[kL,HT.GD,Option.getD_none,show(1:Int) > 0 by decide,if_true];by_cases h:i < 0
   ·simp only[h,if_true] <;> lia
   ·simp only[h,if_false] <;> lia
 ·cases hi with
  |none=>simp[kL,HT.GD]
  |some i =>
   simp only[kL,HT.GD,Option.getD_none,show(1:Int) > 0 by decide,if_true];by_cases h:i < 0
   ·simp only[h,if_true] <;> lia
   ·simp only[h,if_false] <;> lia
theorem Bh(its:List aa)(lo hi:Option Int):slicePick its.toArray lo hi none=((its.drop (HT.GD its.length 0 lo)).take (HT.GD its.length its.length hi - HT.GD its.length 0 lo)).toArray:=by obtain⟨h1,h2,h3⟩:=DY lo hi its.toArray.size;unfold slicePick;rw[h1,h2,h3];simp only[sliceRange_one,pick_run,dk] <;> rfl
noncomputable def agj(K:ai):V->Option Int->Option Int->Hp->VK->Prop:=fun x lo hi H Q=>∃a xs,x=.ref a/\qp K H a xs/\∀p,H p=none->Q (.ref p) (upd H p (.lst (Ks xs lo hi)))
theorem ZJ:SlR X (agj X.K):=by intro pins s σ H x v vl vu lo hi sl Q I rx hs pl pu h;obtain⟨a,xs,rfl,hx,q⟩:=h;cases rx;obtain⟨its,r,ht,hz⟩:=I.list hx;have hlen:=r.length;refine⟨"list",_,slot_list_getitem.lookup,ht.isList.typeIs,?_⟩;refine wpAny_getItem_list_slice ht.isList hs pl pu .none (by simp) ?_ (by rw[dk] <;> lia);rw[Bh,<- hlen];refine⟨.ref s.heap.objs.size,_,I.laid (t':=s.toks) (o:=.lst (Ks xs lo hi)) (fun b ob q=>cy _ q) (bE _) ?_,rfl,q _ (I.hok.fresh (bE _))⟩;exact⟨cx (Hj xs lo hi) hz,_,0,(r.drop (HT.GD xs.length 0 lo)).take (HT.GD xs.length xs.length hi - HT.GD xs.length 0 lo),dA _ rfl⟩
theorem Ea:gZ X (.builtin "len") (fun xs H Q=>∃p ys,xs=[.ref p]/\(qp X.K H p ys∨mX X.K H p ys)/\Q (.int ys.length) H):=by
 intro pins s σ H xs us Q I r h;obtain⟨p,ys,rfl,hq,q⟩:=h;obtain⟨u,rfl,rx⟩:=Ny r;cases rx;have hn:=DR;rcases hq with hq|hq
 ·obtain⟨its,r',pl,hz⟩:=I.list hq;have hlen:=r'.length;exact Calls.call_len_list pl.isList (by simp only[dk] <;> lia) ⟨.int ys.length,H,I.tok _,⟨s.toks + 1,by rw[dk,hlen]⟩,q⟩
 ·obtain⟨its,r',pl,hz⟩:=I.tuple hq;have hlen:=r'.length;exact len_tuple pl (by simp only[dk] <;> lia) ⟨.int ys.length,H,I.tok _,⟨s.toks + 1,by rw[dk,hlen]⟩,q⟩
theorem Bj:gZ X (.type "tuple") (fun xs H Q=>∃p ys,xs=[.ref p]/\((qp X.K H p ys/\∀l,H l=none->Q (.ref l) (upd H l (.tup ys)))∨(mX X.K H p ys/\Q (.ref p) H))):=by
 intro pins s σ H xs us Q I r h;obtain⟨p,ys,rfl,h⟩:=h;obtain⟨u,rfl,rx⟩:=Ny r;cases rx;rcases h with ⟨hq,q⟩|⟨hq,q⟩
 ·obtain⟨its,r',pl,hz⟩:=I.list hq;have hlen:=r'.length;refine call_tuple_list pl.isList (fun h' kp=>?_) (by simp only[dk] <;> lia);have I1:Inv X pins σ H { s with heap:=h' }:=I.kept (t':=s.toks) kp;have I2:Inv X pins σ (upd H h'.objs.size (.tup ys)) { s with heap:=h'.push { cls:=.type "tuple",data:=.seq its.toArray } } :=
   I1.laid (t':=s.toks) (fun b o e=>cy _ e) (bE _) (show gq X.prog X.w _ _ _ (.tup ys) from⟨hz,its,r',kB.new _ _⟩)
  exact⟨.ref h'.objs.size,_,I2,rfl,q _ (I1.hok.fresh (bE _))⟩
 ·obtain⟨its,r',pl,hz⟩:=I.tuple hq;exact call_tuple_same pl ⟨.ref p,H,I,rfl,q⟩
noncomputable def tyV(K:ai)(T:String)(x:V)(H:Hp):Prop:=match x with
 | .str _=>T="str"
 | .int _=>T="int"
 | .ref p=>(T="list"/\∃xs,qp K H p xs)∨(T="tuple"/\∃o,K.lookup p=some o/\o.cls=.type "tuple"/\o.dict=none) ∨
   (T="dict"/\((∃kvs,H p=some (.dK kvs))∨∃kvs,H p=some (.dT kvs)))∨(T="set"/\∃S n,H p=some (.set S n))
 |_=>False
theorem adt{pins:List (ae×Obj)}{σ:St}{H:Hp}{s:af}{T:String}{x:V}{v:aa}(I:Inv X pins σ H s)(r:RelV x v)(ty:tyV X.K T x H) :
  s.TypeIs v T/\∀a,v=.ref a->∃ob,s.heap.get? a=some ob/\ob.dict=none:=by
 cases x with
 |str z =>
  obtain⟨t,rfl⟩:=r;cases (show T="str" from ty);exact⟨typeIs_str s z t,fun _ e=>nomatch e⟩
 |int i =>
  obtain⟨t,rfl⟩:=r;cases (show T="int" from ty);exact⟨typeIs_int s i t,fun _ e=>nomatch e⟩
 |ref p =>
  cases r;rcases ty with ⟨rfl,xs,hq⟩|⟨rfl,o,hk,hc,hd⟩|⟨rfl,hk⟩|⟨rfl,S,n,hk⟩
  ·obtain⟨its,_,pl,_⟩:=I.list hq;refine⟨pl.isList.typeIs,fun a e=>?_⟩;cases e;obtain⟨o,n,e,c,hd,_⟩:=pl;exact⟨o,e,hd⟩
  ·refine⟨⟨o,I.GR p o hk,hc⟩,fun a e=>?_⟩;cases e;exact⟨o,I.GR _ o hk,hd⟩
  ·have z:∃o,s.heap.get? p=some o/\o.ExactDict:=by
    rcases hk with ⟨kvs,hk⟩|⟨kvs,hk⟩
    ·obtain⟨_,_,_,_,o,_,_,e,ex,_⟩:=I.hok p _ hk;exact⟨o,e,ex⟩
    ·obtain⟨_,_,_,_,o,_,_,e,ex,_⟩:=I.hok p _ hk;exact⟨o,e,ex⟩
   obtain⟨o,e,ex⟩:=z;refine⟨⟨o,e,ex.1⟩,fun a e2=>?_⟩;cases e2;exact⟨o,e,ex.2.1⟩
  ·obtain⟨o,_,_,_,e,ex,_⟩:=I.hok p _ hk;refine⟨⟨o,e,ex.1⟩,fun a e2=>?_⟩;cases e2;exact⟨o,e,ex.2.1⟩
 |_=>exact eM ty
noncomputable def tBM(K:ai)(T:String)(r:V->List V->Hp->VK->Prop)(to:TE)(t:TA):TE:=fun σ H Q=>to σ H fun x H1=>tyV K T x H1/\t σ H1 fun xs H2=>r x xs H2 Q
variable{o e:ag}{es:List ag}{to:TE}{t:TA}{name:Str}{apos cpos:Pos}{T id:String}{r:V->List V->Hp->VK->Prop}
theorem Tt(pa:PlainAttrs T) (slot:Slot T name id) (hty:typeOf (.builtin id)=pure (.type "method_descriptor")) (hm:MtR X id r) (ho:PE X o to) (ha:PA X (e::es) t)
  (hbase:kM o name X.env (bj o X.env)=bj o X.env:=by rfl)
  (hfew:((cS cpos (bb (e::es) X.env)).all (fun x=>!x.1) && (kN cpos (kP [] X.env)).all (fun x=>x.1.isSome)
   && decide ((e::es).length + ([]:List fE).length + (if ([]:List fE).isEmpty then 0 else 1) < 30))=true:=by rfl)
  (hline:(apos.endLine == cpos.line)=true:=by rfl) (hs:bb (e::es) X.env=(false,bj e X.env)::bb es X.env:=by rfl) (hplain:(cS cpos (bb es X.env)).any (·.1)=false:=by rfl) :
  PE X (.Call (.Attribute o name apos) (e::es) [] cpos) (tBM X.K T r to t):=by
 intro pins s σ H Q I h;refine wpAny_Call_method_late hbase hfew hline rfl (jq (ho pins s σ H _ I h) fun v s1 fU=>?_);obtain⟨x,H1,I1,r1,ty,q1⟩:=fU;obtain⟨h1,h2⟩:=adt I1 r1 ty;refine⟨T,id,pa,slot,hty,h1,h2,?_⟩;have hA:=ha cpos pins s1 σ H1 _ I1 q1;rw[hs]at hA ⊢;refine Calls.callWith_builtin (by show(false || (cS cpos (bb es X.env)).any (·.1))=false;rw[hplain] <;> rfl) (sR ?_);exact jq hA fun us s2 ⟨vs,H2,I2,r2,q2⟩=>hm pins s2 σ H2 x vs v us Q I2 r1 r2 q2
end
noncomputable def MtM(X:Cx)(id:String)(r:V->List V->Hp->VK->Prop):Prop :=
 ∀(pins:List (ae×Obj)) (s:af) (σ:St) (H:Hp) (x:V) (xs:List V) (v:aa) (us:List aa) (Q:VK),Inv X pins σ H s->RelV x v->Vals xs us->r x xs H Q ->
  aw (ay X.prog X.w) X.A (call (.builtin id) (v::us)) (EP X pins σ Q) X.xe s
theorem Vals.one:∀{x:V}{us:List aa},Vals [x] us->∃u,us=[u]/\RelV x u
 |_,_,.cons r .nil=>⟨_,rfl,r⟩
section
variable{X:Cx}{pins:List (ae×Obj)}{σ:St}{H:Hp}{s:af}{l b:ae}{xs ys zs:List V}
theorem Inv.agk{its its':List aa}{n:Nat}{f:Array aa->Array aa}{t':Nat}(I:Inv X pins σ H s)(hH:H l=some (.lst xs))
  (e:s.heap.get? l=some { cls:=.type "list",data:=.seq its.toArray n }) (hf:f its.toArray=its'.toArray) (hv:Vals ys its') (hz:ys.length<=sizeLine) :
  Inv X pins σ (upd H l (.lst ys)) { s with heap:=s.heap.update l (eA f),toks:=t' }:=by
 have q:=PySem.IsL.update e f;rw[hf]at q;refine I.write (x:=l) (e:=l) (by rw[hH];exact trivial) (.inl rfl) (fun b' u hb hu=>(i8 s.heap (eA f) (dE hb)).trans hu) ⟨_,q⟩ ?_;exact⟨hz,its',_,hv,q⟩
theorem Inv.agl{its:List aa}{t':Nat}(I:Inv X pins σ H s)(hv:Vals ys its)(hz:ys.length<=sizeLine) :
  Inv X pins σ (upd H s.heap.objs.size (.lst ys)) { s with heap:=s.heap.push { cls:=.type "list",data:=.seq its.toArray },toks:=t' } :=
 I.laid (fun _ _ q=>cy _ q) (bE _) ⟨hz,its,0,hv,dA _ rfl⟩
theorem Inv.fresh(I:Inv X pins σ H s):H s.heap.objs.size=none:=I.hok.fresh (bE _)
theorem Inv.agm(I:Inv X pins σ H s)(hH:H l=some (.lst xs)):xs.length<=sizeLine/\∃(its:List aa) (n:Nat),Vals xs its/\xs.length=its.length/\s.heap.get? l=some { cls:=.type "list",data:=.seq its.toArray n }:=by obtain⟨z,its,n,r,e⟩:=I.hok l _ hH;exact⟨z,its,n,r,r.length,e⟩
theorem Tv{n:Nat}(h:n<=sizeLine):pf n=false:=by unfold pf;exact decide_eq_false (by lia)
end
section
variable{X:Cx}
noncomputable def NQ:V->List V->Hp->VK->Prop:=fun x vs H Q=>∃l xs y,x=.ref l/\vs=[y]/\H l=some (.lst xs)/\xs.length < sizeLine/\Q .non (upd H l (.lst (xs++[y])))
theorem vZ:MtM X "list.append" NQ:=by intro pins s σ H x vs v us Q I rx rv h;obtain⟨l,xs,y,rfl,rfl,hH,hz,q⟩:=h;cases rx;obtain⟨u,rfl,ru⟩:=rv.one;obtain⟨z,its,n,r,hl,e⟩:=I.agm hH;refine call_meets F.slot_list_append ⟨_,e,rfl⟩ F.entry_list_append (F.args_list_append_2 _ _) (PySem.list_append l its.toArray n u (by rw[dk];lia)) ⟨e,?_⟩;refine⟨.non,_,I.agk (its':=its++[u]) hH e (by simp) (r.append (.cons ru .nil)) ?_,rfl,q⟩;rw[dn,List.length_singleton];lia
end
section
variable{prog:aS}{w:az}{A:ba}{E:aa->af->Prop}{s:af}
end
section
variable{X:Cx}
end
end L2
namespace Att
open PySem PySem.W PySem.Calls PyProof.Rows
theorem xQ{P:Params}{h:aE}:∀(ns:List Int) (vs:List aa),WellAll P h vs (ns.map WData.int)->l5 vs ns:=by
 intro ns
 induction ns with
 |nil =>
  intro vs w;rw[gu]at w;cases w;exact .nil
 |cons n ns ih =>
  intro vs w;rw[bX]at w;cases w with
  |cons a b =>
   cases a;exact .cons _ _ (ih _ b)
theorem QG{l:l_}{n:Nat}(hn:l.most=some n){P:Params}{h:aE}{args:List WData}{vals:List aa}
  (hpre:l.row.toRowW.claim.pre args=true) (hwl:WellAll P h vals args) :
  ∃a vs ns,vals=[aa.ref a]/\args=[WData.list (ns.map WData.int)]/\h.get? a=some { cls:=.type "list",data:=.seq vs.toArray }/\l5 vs ns/\ns.length<=n:=by
 have hsh:WShape.hasAll [] args [.list .int]=true:=(pre_splitW hpre).1;have hc:l.pre.holds [] { args:=args }=true:=(pre_splitW hpre).2;obtain⟨d,r,rfl,h1,h2⟩:=hasAllW_cons hsh;obtain rfl:=hasAllW_nil h2;obtain⟨xs,rfl,h3⟩:=hasW_list h1;obtain⟨ns,rfl⟩:=items_int h3;have hlen:ns.length<=n:=by
  unfold l_.pre at hc;have h4:(WTm.not (.lt (.lit (.int (n:Int))) (.len (.arg 0)))).holds [] { args:=[.list (ns.map .int)] }=true:=by have h4:=(holds_andW hc).1;rw[hn]at h4;exact h4
  have h5:=condW_of h4 (w_not (w_lt w_lit (w_len_list (w_arg rfl))));rw[cn]at h5;refine Nat.le_of_not_lt fun q=>?_;have q':(n:Int) < ((ns.length:Nat):Int):=by lia
  first
   | (rw[decide_eq_true q']at h5;exact absurd h5 (by decide))
   | (simp at h5;lia)
 cases hwl with
 |cons w1 w2 =>
  cases w2;cases w1 with
  |list ho hall=>exact⟨_,_,ns,rfl,rfl,ho,xQ ns _ hall,hlen⟩
theorem QH(l:l_)(args:List WData):l.row.toRowW.claim.post args (.bool true) args=true :=
 postW_of (r:=l.row.toRowW) (X:=(true == true))
  (show WShape.has [] (.bool true) .bool=true by first|rfl|decide|simp[WShape.has,WShape.arms,WShape.armsAll])
  (show(WTm.eq .res (.lit (.bool true))).value [] { args:=args,res:=some (.bool true),after:=args }=some (.bool (true == true)) from w_eq_bool (w_res rfl) w_lit) rfl
theorem Hl{l:l_}{n:Nat}{q:aS}{loose:List Str}{XP:(Str->Option aa)->aE->Prop}{YP:az->aE->Prop}{d:DefRec}
  (hn:l.most=some n) (hdf:d.params.defaults=[])
  (call:∀(w:az) (s₀ s₁:af) (mg mb:Str->Option aa) (fa:ae) (o:Obj) (pm cd doc:aa) (a:ae) (vs:List aa) (ns:List Int),
   Ground q loose [] XP w s₀ mg mb s₁.heap->YP w s₁.heap ->
   s₁.heap.get? fa=some o->o.data=.func (docDef d.name d.params d.body d.scope pm cd doc)->s₁.heap.CodeRec cd d.name->mg d.name=some (.ref fa) ->
   s₁.heap.get? a=some { cls:=.type "list",data:=.seq vs.toArray }->l5 vs ns->ns.length<=n->s₁.gens=#[] ->
   i4 (ay l.prog w) j6 (.call (.ref fa) ⟨[.ref a],[]⟩) (fun r s'=>r=.ok (.ret (.bool true))/\OldK s₁.heap s'.heap/\s'.os=s₁.os/\iS s'.gens) s₁) :
  WalkO q loose XP YP l.row.toRowW d [] (fun f vs=>PySem.call f vs):=by
 intro w s₀ s₁ mg mb G Y fa o pm cd doc dV kV ho hd hcd hD hmg hg args vals as hpre hlay hrd hwl hlo;obtain rfl:dV=.none:=Dflts.none hD hdf;obtain rfl:kV=.none:=Dflts.noKw hD;obtain⟨a,vs,ns,rfl,rfl,hobj,hints,hlen⟩:=QG hn hpre hwl;refine enter_call (kQ (call w s₀ s₁ mg mb fa o pm cd doc a vs ns G Y ho (fd_plain hd) hcd hmg hobj hints hlen hg) fun r s' hq=>?_);obtain⟨rfl,h2,h3,h4⟩:=hq;exact⟨.inl ⟨.bool true,.bool true,[],rfl,fun _=>rfl,.bool true,QH l _,fun _=>⟨nN.nil,fun _ hm=>(nomatch hm)⟩⟩,h2,h3,h4⟩
section
variable{prog:aS}{w:az}{A:ba}{E:aa->af->Prop}{s:af}{K:c_}
noncomputable def aiz(h:aE)(L d:ae):List (ae×Obj):=(bS h.objs.size).filterMap fun a=>if a=L∨a=d then none else (h.get? a).map fun o=>(a,o)
end
end Att
namespace L2
open PySem PySem.Spec PyProof.Rows
theorem rQ:∀{vs:List aa}{ns:List Int},l5 vs ns->Vals (ns.map V.int) vs
 |_,_,.nil=>.nil
 |_,_,.cons n t h=>.cons ⟨t,rfl⟩ (rQ h)
noncomputable def adu(H:Hp):Prop:=∀b,H b=none∨∃o xs,H b=some (.Cd o (.lst xs))
theorem Tw{P:aS}{w:az}{K:ai}{mg mb:Str->Option aa}{CX:Tj}{k:Nat}{fa a:ae}{fd:df}{x:Str}{sp:Sp}{s₁:af}{vs:List aa}{ns:List Int}
  (KX:K.In s₁.heap) (hns:s₁.heap.Ns cw mg) (hb:s₁.heap.Ns builtinsNs mb) (hbb:∀x:Str,x≠"__name__"->mb x=il x) (hlim:s₁.heap.NoLimit) (hbm:∃bm ob,mg "__builtins__"=some (.ref bm)/\bm≠builtinsNs/\s₁.heap.get? bm=some ob/\ob.cls=.type "module"/\ob.dict=some builtinsNs/\ob.data=.plain) (hg:s₁.gens=#[])
  (ha:s₁.heap.get? a=some { cls:=.type "list",data:=.seq vs.toArray }) (hi:l5 vs ns) (hl:ns.length<=sizeLine) (hr:jt k j6)
  (F:∀base:aE,K.In base->base.Ns cw mg->qD P w K mg base CX k fa fd [x] sp) (hbind:∀(s:af) (u:aa),iX s fd ⟨[u],[]⟩ [(x,u)])
  (hsp:∀H:Hp,adu H->qp K H a (ns.map V.int)->sp [.ref a] H (fun v _=>v=.bl true) fun _ _ _=>False)
  (hCX:∀H e s',CX [] H s₁ (fun _ _ _=>False) e s'->False) :
  i4 (ay P w) j6 (.call (.ref fa) ⟨[.ref a],[]⟩) (fun r s'=>r=.ok (.ret (.bool true))/\OldK s₁.heap s'.heap/\s'.os=s₁.os/\iS s'.gens) s₁:=by
 have rv:=rQ hi;have lenV:=hi.length;have core:∀H:Hp,adu H->qp K H a (ns.map V.int)->xK P w H s₁.heap->(∀b,H b≠none->b=a)->(H a≠none->K.lookup a=none) ->
   i4 (ay P w) j6 (.call (.ref fa) ⟨[.ref a],[]⟩) (fun r s'=>r=.ok (.ret (.bool true))/\OldK s₁.heap s'.heap/\s'.os=s₁.os/\iS s'.gens) s₁:=by
  intro H hO hS hok hA hK;have Eb:∀{b:ae}{o:Obj},s₁.heap.get? b=some o->H b=none->(Dw s₁.heap H).get? b=some o:=fun e n=>Ss e n;have Ze:∀{b:ae}{o:Obj}{es:Array md}{ep:Nat},s₁.heap.get? b=some o->o.data=.dict es ep->H b=none:=fun {b o es ep} e d=>by
   cases q:H b with
   |none=>rfl
   |some u =>
    have e':b=a:=hA b (by rw[q];simp);subst e';rw[ha]at e;cases e;have d':Data.seq vs.toArray _=Data.dict es ep:=d;cases d'
  have nsK:∀{b:ae}{m:Str->Option aa},s₁.heap.Ns b m->(Dw s₁.heap H).Ns b m:=fun {b m} ⟨o,es,ep,e,d,r⟩=>⟨o,es,ep,Eb e (Ze e d),d,r⟩
  have hKb:K.In (Dw s₁.heap H):=fun b o e=>Eb (KX b o e) (by
   cases q:H b with
   |none=>rfl
   |some u =>
    have e':b=a:=hA b (by rw[q];simp);subst e';rw[hK (by rw[q];simp)]at e;cases e)
  have hM:Mod K mg (Dw s₁.heap H):=⟨hKb,nsK hns,⟨mb,nsK hb,hbb⟩,let ⟨mc,h1,h2⟩:=hlim;⟨mc,nsK h1,h2⟩,let ⟨bm,ob,e1,e2,e3,e4,e5,e6⟩:=hbm;⟨bm,ob,e1,e2,Eb e3 (by
   cases q:H bm with
   |none=>rfl
   |some u =>
    have e':bm=a:=hA bm (by rw[q];simp);subst e';rw[ha]at e3;cases e3;cases e6),e4,e5,e6⟩⟩
  have e0:Tn P w K mg (Dw s₁.heap H) j6 [] s₁ H:=⟨rfl,hM,fun b o e=>Zi e,sT (Qu _ _),trivial,fun b hb=>absurd (show b∈([]:List ae) from hb) (by simp),hok,.of_eq hg⟩
  refine kQ ((F _ hKb (nsK hns)).run j6 [] s₁ H ⟨[.ref a],[]⟩ [.ref a] [.ref a] _ _ hr e0 (hbind s₁ (.ref a)) (.cons rfl .nil) (hsp H hO hS)) fun r s' h=>?_;cases r with
  |error e=>exact(hCX H e s' h).elim
  |ok fl =>
   cases fl with
   |next=>exact eM h
   |brk=>exact eM h
   |cont=>exact eM h
   |ret u =>
    obtain⟨v,H',os,bare,un,hok',r',q⟩:=h;have q':v=.bl true:=q;subst q';obtain rfl:u=aa.bool true:=r';refine⟨rfl,OldK.of_keep fun b o e=>?_,os,bare⟩;cases q:H b with
    |none=>exact un.keep b o e q (by intro z;exact absurd (show b∈([]:List ae) from z) (by simp)) (by simp)
    |some u =>
     rcases hO b with z|⟨ob,xs,z⟩
     ·rw[q]at z;cases z
     ·have z2:=un.yG b ob _ z;obtain⟨e1,_⟩:=hok b _ z;obtain⟨e2,_⟩:=hok' b _ z2;rw[e]at e1;cases e1;exact e2
 cases hk:K.lookup a with
 |some o =>
  have e:=KX a o hk;rw[ha]at e;cases e;refine core (fun _=>none) (fun _=>.inl rfl) (.inr ⟨_,vs.toArray,_,hk,rfl,rfl,rfl,by rw[dk,lenV];exact hl,by simpa using rv⟩) (fun b u z=>by have z':(none:Option HO)=some u:=z;cases z') (fun b z=>absurd rfl z) fun z=>absurd rfl z
 |none =>
  refine core (fun b=>if b=a then some (.Cd { cls:=.type "list",data:=.seq vs.toArray } (.lst (ns.map V.int))) else none) (fun b=>?_) (.inl (.inr ⟨{ cls:=.type "list",data:=.seq vs.toArray },if_pos rfl⟩)) (fun b u z=>?_) (fun b z=>?_) fun _=>hk
  ·by_cases hb:b=a
   ·exact .inr ⟨_,_,if_pos hb⟩
   ·exact .inl (if_neg hb)
  ·by_cases hb:b=a
   ·have z':=(if_pos hb).symm.trans z;cases z';subst hb;exact⟨ha,by rw[cn];exact hl,vs,_,rv,ha⟩
   ·have z':=(if_neg hb).symm.trans z;cases z'
  ·by_cases hb:b=a
   ·exact hb
   ·exact absurd (if_neg hb) z
noncomputable abbrev KOf{K:ai}{h:aE}(_:K.In h):ai:=K
theorem ZK{l:PySem.W.OpenLaw}{n k:Nat}{q:aS}{loose:List Str}{XP:(Str->Option aa)->aE->Prop}{YP:az->aE->Prop}{d:DefRec}{K:Params->ai}{CX:az->Tj}{sp:az->Sp}{x:Str}
  (hn:l.most=some n) (hn2:n<=sizeLine) (hdf:d.params.defaults=[]) (hr:jt k j6)
  (hY:∀(w:az) (h:aE),YP w h->(K w.params).In h)
  (F:∀(w:az) (mg:Str->Option aa) (fa:ae) (h:aE),(K w.params).In h->h.Ns cw mg->mg d.name=some (.ref fa) ->
   ∃fd:df,(∀(s:af) (u:aa),iX s fd ⟨[u],[]⟩ [(x,u)]) /\
    ∀base:aE,(K w.params).In base->base.Ns cw mg->qD l.prog w (K w.params) mg base (CX w) k fa fd [x] (sp w))
  (hsp:∀(w:az) (H:Hp) (a:ae) (ns:List Int),ns.length<=n->adu H->qp (K w.params) H a (ns.map V.int)->sp w [.ref a] H (fun v _=>v=.bl true) fun _ _ _=>False)
  (hCX:∀(w:az) (H:Hp) (s:af) (e:aa) (s':af),CX w [] H s (fun _ _ _=>False) e s'->False) :
  PySem.W.WalkO q loose XP YP l.row.toRowW d [] (fun f vs=>PySem.call f vs):=by
 refine Att.Hl hn hdf fun w s₀ s₁ mg mb fa o pm cd doc a vs ns G Y ho hd hcd hmg hobj hints hlen hg=>?_;have KX:=hY w _ Y;obtain⟨fd,hb,hF⟩:=F w mg fa _ KX G.T.g hmg;exact Tw KX G.T.g G.T.b G.T.builtins G.T.nolimit G.T.bmain hg hobj hints (cx hlen hn2) hr hF hb (fun H hO hS=>hsp w H a ns hlen hO hS) fun H e s'=>hCX w H s₁ e s'
noncomputable def gO(s:bg):Arguments:=match s with
 | .FunctionDef _ a _ _ _ _ _ _ _ _=>a
 |_=>{ posonlyargs:=[],args:=[],vararg:=none,kwonlyargs:=[],kw_defaults:=[],kwarg:=none,defaults:=[] }
noncomputable def cO(s:bg):List bg:=match s with
 | .FunctionDef _ _ b _ _ _ _ _ _ _=>b
 |_=>[]
noncomputable def aF(s:bg):Scope:=match s with
 | .FunctionDef _ _ _ _ _ _ sc _ _ _=>sc
 |_=>{ kind:=.function,names:=[],isGenerator:=false,isCoroutine:=false }
structure Fun (K:ai)(x qual:Str)(st:bg)(f:ae)(fd:df):Prop where
 ex:∃(oc:aa) (od:Option ae) (kV doc pm:aa) (an:Option ae) (cdv ct:aa) (osl:Array (Option aa)),
  fd=iq x qual (gO st) (cO st) (aF st) .none kV doc pm an cdv ct/\K.lookup f=some ⟨oc,od,.func fd,osl⟩/\nK K cdv qual=true
 kp:g9 K (.ref f)=true
section
variable{P:aS}{w:az}{K:ai}{mg:Str->Option aa}{base:aE}
theorem Fun.binds{x qual:Str}{st:bg}{f:ae}{fd:df}{ps:List Str}(F:Fun K x qual st f fd)
  (h:∀(kV doc pm:aa) (an:Option ae) (cdv ct:aa) (us:List aa),us.length=ps.length->bindArgs (iq x qual (gO st) (cO st) (aF st) .none kV doc pm an cdv ct) ⟨us,[]⟩=pure (ps.zip us)):Binds K fd ps []:=by
 obtain⟨oc,od,kV,doc,pm,an,cdv,ct,osl,rfl,lk,hcd⟩:=F.ex;exact .all (h kV doc pm an cdv ct)
theorem Tz{x qual:Str}{st:bg}{f:ae}{oc:aa}{od an:Option ae}{osl:Array (Option aa)}{kV doc pm cdv ct:aa}(l:K.lookup f=some ⟨oc,od,.func (iq x qual (gO st) (cO st) (aF st) .none kV doc pm an cdv ct),osl⟩)
  (c:nK K cdv qual=true) (k:g9 K (.ref f)=true):Fun K x qual st f (iq x qual (gO st) (cO st) (aF st) .none kV doc pm an cdv ct):=⟨⟨oc,od,kV,doc,pm,an,cdv,ct,osl,rfl,l,c⟩,k⟩
end
theorem QJ{n:Nat}(h:n<=1000):n < sizeLine:=ir h (by decide)
section
variable{X:Cx}
theorem pv(i:Nat){x:Str}{pos:Pos}(hN:X.N[i]?=some x:=by rfl)(hv:Gz X.env.scope x:=by first|exact Or.inl rfl|exact Or.inr (Or.inl rfl)|exact Or.inr (Or.inr rfl))(hd:qx x:=by decide)
  (hcd:GP x:=by decide):PE X (.Name x pos) (yL i):=iw hN hv hd hcd
end
noncomputable def Same(H H':Hp):Prop:=∀b o,H b=some o->H' b=some o
theorem Same.refl(H:Hp):Same H H:=fun _ _ h=>h
theorem Same.trans{H H1 H2:Hp}(a:Same H H1)(b:Same H1 H2):Same H H2:=fun c o h=>b c o (a c o h)
theorem Same.free{H H':Hp}(e:Same H H'){l:ae}(h:H' l=Option.none):H l=Option.none:=by
 cases q:H l with
 |none=>rfl
 |some o =>
  rw[e l o q]at h;cases h
theorem Same.seq{K:ai}{H H':Hp}{a:ae}{xs:List V}(e:Same H H')(h:qp K H a xs):qp K H' a xs:=by
 rcases h with (h|⟨o,h⟩)|h
 ·exact .inl (.inl (e _ _ h))
 ·exact .inl (.inr ⟨o,e _ _ h⟩)
 ·exact .inr h
end L2
namespace Vl
open PySem PySem.Spec L2
inductive D where
 |non|bl (b:Bool)|int (i:Int)|str (x:Str)|tup (xs:List D)|lst (xs:List D)|GF (c:Str) (n:Int)|GJ (ks:LL) (ds:List D)|fn (x:Str)|obj (c:Str) (ns:List Str) (ds:List D)
noncomputable def abN(a C:ae)(dx:Option ae):aE->Prop:=fun h=>∃o vs,h.get? a=some o/\o.cls=.ref C/\o.data=.fields vs/\∀d,dx=some d->o.dict=some d
noncomputable def TF(c:Str):Str:=if c="NoText" then "at" else "place"
noncomputable def TJ(G:Hp)(c:Str)(dx:Option ae)(n:Int):Prop:=n=0∨∃d i,n=2 * i + 1/\dx=some d/\G d=some (.xd [(TF c,.int i)])
theorem TJ.mono{G G':Hp}(e:Same G G'){c:Str}{dx:Option ae}{n:Int}(h:TJ G c dx n):TJ G' c dx n:=h.imp id fun⟨d,i,h1,h2,h3⟩=>⟨d,i,h1,h2,e _ _ h3⟩
noncomputable def UG(K:ai)(G:Hp):ae->List Int->Prop:=fun b ks=>mX K G b (ks.map V.int)
noncomputable def ZL(ks:List Int):Int:=reduceHash (cE.Tuple.tupleHashOf (ks.map hashInt))
noncomputable def jr(U:ae->List Int->Prop)(a:ae)(kvs:List (List Int×V)):aE->Prop:=fun h=>∃(o:Obj) (es:Array md) (ep:Nat) (xs:List (List Int×ae×aa)),h.get? a=some o/\o.ExactDict/\o.data=.dict es ep/\(a == ik)=false /\
 es.toList=xs.map (fun x=>⟨ZL x.1,.ref x.2.1,x.2.2⟩)/\(xs.map (·.1)).Nodup/\Paired (fun(p:List Int×V) (q:List Int×ae×aa)=>p.1=q.1/\U q.2.1 q.1/\RelV p.2 q.2.2) kvs xs
noncomputable def NT(H:Hp)(d:ae)(U:ae->List Int->Prop)(bh:List (List Int×V)):Prop:=∃φ:aE->Prop,H d=some (.ext φ)/\∀h,φ h->jr U d bh h
theorem Ho{H:Hp}{d:ae}{U:ae->List Int->Prop}{bh:List (List Int×V)}(h:H d=some (.ext (jr U d bh))):NT H d U bh:=⟨_,h,fun _ z=>z⟩
noncomputable def Hq(G:Hp)(a:ae)(U:ae->List Int->Prop)(bh:List (List Int×V)):Prop:=∃o,G a=some (.ext fun h=>h.get? a=some o/\jr U a bh h)
theorem Hq.mono{G G':Hp}{a:ae}{U:ae->List Int->Prop}{bh:List (List Int×V)}(e:Same G G')(h:Hq G a U bh):Hq G' a U bh:=let ⟨o,q⟩:=h;⟨o,e _ _ q⟩
mutual
noncomputable def Rep(K:ai)(G:Hp):D->V->Prop
 | .non,v=>v=.non
 | .bl b,v=>v=.bl b
 | .int i,v=>v=.int i
 | .str x,v=>v=.str x
 | .tup ds,v=>∃a vs,v=.ref a/\mX K G a vs/\bD K G ds vs
 | .lst ds,v=>∃a vs,v=.ref a/\qp K G a vs/\bD K G ds vs
 | .GF c n,v=>∃a C dx,v=.ref a/\i9 K cw c=some (some (.ref C))/\G a=some (.ext (abN a C dx))/\TJ G c dx n
 | .GJ ks ds,v=>∃a U bh,v=.ref a/\Hq G a U bh/\(∀b js,U b js->UG K G b js)/\bh.map (·.1)=ks/\bD K G ds (bh.map (·.2))
 | .fn x,v=>∃a o fd,v=.ref a/\i9 K cw x=some (some (.ref a))/\K.lookup a=some o/\o.data=.func fd
 | .obj c ns ds,v=>∃a C dx us,v=.ref a/\i9 K cw c=some (some (.ref C))/\G a=some (.ins C dx (ns.zip us))/\G dx=some (.own a)/\us.length=ns.length/\bD K G ds us
noncomputable def bD(K:ai)(G:Hp):List D->List V->Prop
 | [],vs=>vs=[]
 |d::ds,vs=>∃v vs',vs=v::vs'/\Rep K G d v/\bD K G ds vs'
end
theorem Same.iy{K:ai}{H H':Hp}{a:ae}{xs:List V}(e:Same H H')(h:mX K H a xs):mX K H' a xs:=by
 rcases h with (h|⟨o,h⟩)|h
 ·exact .inl (.inl (e _ _ h))
 ·exact .inl (.inr ⟨o,e _ _ h⟩)
 ·exact .inr h
mutual
theorem Rep.mono{K:ai}{G G':Hp}(e:Same G G'):∀{d:D}{v:V},Rep K G d v->Rep K G' d v
 | .non,_,h=>by simp only[Rep]at h ⊢;exact h
 | .bl _,_,h=>by simp only[Rep]at h ⊢;exact h
 | .int _,_,h=>by simp only[Rep]at h ⊢;exact h
 | .str _,_,h=>by simp only[Rep]at h ⊢;exact h
 | .tup ds,_,h=>by simp only[Rep]at h ⊢;obtain⟨a,vs,e1,h1,h2⟩:=h;exact⟨a,vs,e1,Same.iy e h1,bD.mono e h2⟩
 | .lst ds,_,h=>by simp only[Rep]at h ⊢;obtain⟨a,vs,e1,h1,h2⟩:=h;exact⟨a,vs,e1,e.seq h1,bD.mono e h2⟩
 | .GF c n,_,h=>by simp only[Rep]at h ⊢;obtain⟨a,C,dx,e1,h1,h2,h3⟩:=h;exact⟨a,C,dx,e1,h1,e _ _ h2,h3.mono e⟩
 | .fn x,_,h=>by simp only[Rep]at h ⊢;exact h
 | .obj c ns ds,_,h=>by simp only[Rep]at h ⊢;obtain⟨a,C,dx,us,e1,h1,h2,h3,h4,h5⟩:=h;exact⟨a,C,dx,us,e1,h1,e _ _ h2,e _ _ h3,h4,bD.mono e h5⟩
 | .GJ ks ds,_,h=>by simp only[Rep]at h ⊢;obtain⟨a,U,bh,e1,h1,h2,h3,h4⟩:=h;exact⟨a,U,bh,e1,h1.mono e,fun b js q=>Same.iy e (h2 b js q),h3,bD.mono e h4⟩
theorem bD.mono{K:ai}{G G':Hp}(e:Same G G'):∀{ds:List D}{vs:List V},bD K G ds vs->bD K G' ds vs
 | [],_,h=>by simp only[bD]at h ⊢;exact h
 |d::ds,_,h=>by simp only[bD]at h ⊢;obtain⟨v,vs',e1,h1,h2⟩:=h;exact⟨v,vs',e1,Rep.mono e h1,bD.mono e h2⟩
end
section
variable{K:ai}{G:Hp}
theorem aX{i:Int}{v:V}:Rep K G (.int i) v↔v=.int i:=by simp only[Rep]
theorem cZ{i:Bool}{v:V}:Rep K G (.bl i) v↔v=.bl i:=by simp only[Rep]
theorem pA{v:V}:Rep K G .non v↔v=.non:=by simp only[Rep]
theorem rR{x:Str}{v:V}:Rep K G (.str x) v↔v=.str x:=by simp only[Rep]
theorem bN{ds:List D}{v:V}:Rep K G (.tup ds) v↔∃a vs,v=.ref a/\mX K G a vs/\bD K G ds vs:=by simp only[Rep]
theorem bJ{ds:List D}{v:V}:Rep K G (.lst ds) v↔∃a vs,v=.ref a/\qp K G a vs/\bD K G ds vs:=by simp only[Rep]
theorem NZ{c:Str}{n:Int}{v:V}:Rep K G (.GF c n) v↔∃a C dx,v=.ref a/\i9 K cw c=some (some (.ref C))/\G a=some (.ext (abN a C dx))/\TJ G c dx n:=by simp only[Rep]
theorem Ec{x:Str}{v:V}:Rep K G (.fn x) v↔∃a o fd,v=.ref a/\i9 K cw x=some (some (.ref a))/\K.lookup a=some o/\o.data=.func fd:=by simp only[Rep]
theorem Oa{c:Str}{ns:List Str}{ds:List D}{v:V}:Rep K G (.obj c ns ds) v↔∃a C dx us,v=.ref a/\i9 K cw c=some (some (.ref C))/\G a=some (.ins C dx (ns.zip us))/\G dx=some (.own a)/\us.length=ns.length/\bD K G ds us:=by simp only[Rep]
theorem Ob{ks:LL}{ds:List D}{v:V}:Rep K G (.GJ ks ds) v↔∃a U bh,v=.ref a/\Hq G a U bh/\(∀b js,U b js->UG K G b js)/\bh.map (·.1)=ks/\bD K G ds (bh.map (·.2)):=by simp only[Rep]
theorem bA{vs:List V}:bD K G [] vs↔vs=[]:=by simp only[bD]
theorem aV{d:D}{ds:List D}{vs:List V}:bD K G (d::ds) vs↔∃v vs',vs=v::vs'/\Rep K G d v/\bD K G ds vs':=by simp only[bD]
theorem bD.length:∀{ds:List D}{vs:List V},bD K G ds vs->ds.length=vs.length
 | [],_,h=>by rw[bA.mp h];rfl
 |d::ds,_,h=>by obtain⟨v,vs',rfl,_,h2⟩:=aV.mp h;simp[bD.length h2]
theorem bD.get:∀{ds:List D}{vs:List V}{i:Nat}{d:D},bD K G ds vs->ds[i]?=some d->∃v,vs[i]?=some v/\Rep K G d v
 | [],_,_,_,h,e=>by simp at e
 |d::ds,_,i,x,h,e=>by
  obtain⟨v,vs',rfl,h1,h2⟩:=aV.mp h;cases i with
  |zero=>simp at e;subst e;exact⟨v,by simp,h1⟩
  |succ i=>obtain⟨u,q1,q2⟩:=bD.get (i:=i) h2 (by simpa using e);exact⟨u,by simpa using q1,q2⟩
theorem bD.get':∀{ds:List D}{vs:List V}{i:Nat}{v:V},bD K G ds vs->vs[i]?=some v->∃d,ds[i]?=some d/\Rep K G d v
 | [],_,_,_,h,e=>by rw[bA.mp h]at e;simp at e
 |d::ds,_,i,x,h,e=>by
  obtain⟨v,vs',rfl,h1,h2⟩:=aV.mp h;cases i with
  |zero=>simp at e;subst e;exact⟨d,by simp,h1⟩
  |succ i=>obtain⟨u,q1,q2⟩:=bD.get' (i:=i) h2 (by simpa using e);exact⟨u,by simpa using q1,q2⟩
theorem bD.append:∀{ds es:List D}{vs us:List V},bD K G ds vs->bD K G es us->bD K G (ds++es) (vs++us)
 | [],_,_,_,h,h'=>by rw[bA.mp h];exact h'
 |d::ds,_,_,_,h,h'=>by obtain⟨v,vs',rfl,h1,h2⟩:=aV.mp h;exact aV.mpr ⟨v,_,rfl,h1,bD.append h2 h'⟩
theorem bD.one{d:D}{v:V}(h:Rep K G d v):bD K G [d] [v]:=aV.mpr ⟨v,[],rfl,h,bA.mpr rfl⟩
theorem bD.drop:∀{ds:List D}{vs:List V}(n:Nat),bD K G ds vs->bD K G (ds.drop n) (vs.drop n)
 |ds,vs,0,h=>by simpa using h
 | [],_,n + 1,h=>by rw[bA.mp h];simpa using bA.mpr rfl
 |d::ds,_,n + 1,h=>by obtain⟨v,vs',rfl,h1,h2⟩:=aV.mp h;simpa using bD.drop n h2
theorem bD.take:∀{ds:List D}{vs:List V}(n:Nat),bD K G ds vs->bD K G (ds.take n) (vs.take n)
 |ds,vs,0,h=>by simpa using bA.mpr rfl
 | [],_,n + 1,h=>by rw[bA.mp h];simpa using bA.mpr rfl
 |d::ds,_,n + 1,h=>by obtain⟨v,vs',rfl,h1,h2⟩:=aV.mp h;simpa using aV.mpr ⟨v,_,rfl,h1,bD.take n h2⟩
theorem wg(ns:List Int):bD K G (ns.map D.int) (ns.map V.int):=by
 induction ns with
 |nil=>exact bA.mpr rfl
 |cons n ns ih=>exact aV.mpr ⟨_,_,rfl,aX.mpr rfl,ih⟩
end
inductive Rs (α:Type) where
 |ok (a:α)|ex (c:Str) (n:Int)|no
noncomputable def Rs.bind{α β:Type}:Rs α->(α->Rs β)->Rs β
 | .ok a,k=>k a
 | .ex c n,_=>.ex c n
 | .no,_=>.no
inductive Sl where
 |no|fz (d:D)|ow (ds:List D)|od (kvs:List (List Int×D))|op (ds:List D)|oe (kvs:List (List Int×D))
noncomputable def Sl.lnt:Sl->Bool
 | .op _=>true
 | .oe _=>true
 |_=>false
noncomputable def Sl.own:Sl->Bool
 | .ow _=>true
 | .od _=>true
 | .op _=>true
 | .oe _=>true
 |_=>false
theorem Sl.xY{z:Sl}(h:z.lnt=true):z.own=true:=by cases z <;> first|rfl|cases h
inductive cM (K:ai) (G:Hp):List (List Int×D)->List (List Int×V)->Prop
 |nil:cM K G [] []
 |cons {k:List Int}{d:D}{v:V}{kvs:List (List Int×D)}{bh:List (List Int×V)}:Rep K G d v->cM K G kvs bh->cM K G ((k,d)::kvs) ((k,v)::bh)
theorem cM.mono{K:ai}{G G':Hp}(e:Same G G'){kvs:List (List Int×D)}{bh:List (List Int×V)}(h:cM K G kvs bh):cM K G' kvs bh:=by
 induction h with
 |nil=>exact .nil
 |cons r _ ih=>exact .cons (r.mono e) ih
noncomputable def qG(K:ai)(G:Hp)(a:ae):Sl->HO->Prop
 | .ow ds,o=>∃vs,o=.lst vs/\bD K G ds vs
 | .op ds,o=>∃vs,o=.lst vs/\bD K G ds vs
 | .od kvs,o=>∃U bh,o=.ext (jr U a bh)/\(∀b ks,U b ks->UG K G b ks)/\cM K G kvs bh
 | .oe kvs,o=>∃U bh,o=.ext (jr U a bh)/\(∀b ks,U b ks->UG K G b ks)/\cM K G kvs bh
 |_,_=>False
theorem qG.mono{K:ai}{G G':Hp}(e:Same G G'){a:ae}{z:Sl}{o:HO}(h:qG K G a z o):qG K G' a z o:=by
 cases z with
 |ow ds=>obtain⟨vs,h1,h2⟩:=h;exact⟨vs,h1,h2.mono e⟩
 |od kvs=>obtain⟨U,bh,h1,h2,h3⟩:=h;exact⟨U,bh,h1,fun b ks q=>Same.iy e (h2 b ks q),h3.mono e⟩
 |op ds=>obtain⟨vs,h1,h2⟩:=h;exact⟨vs,h1,h2.mono e⟩
 |oe kvs=>obtain⟨U,bh,h1,h2,h3⟩:=h;exact⟨U,bh,h1,fun b ks q=>Same.iy e (h2 b ks q),h3.mono e⟩
 |_=>exact h.elim
theorem qG.tup{K:ai}{G:Hp}{a:ae}{z:Sl}{xs:List V}(h:qG K G a z (.tup xs)):False:=by
 cases z with
 |ow ds=>obtain⟨vs,h1,h2⟩:=h;cases h1
 |od kvs=>obtain⟨U,bh,h1,h2,h3⟩:=h;cases h1
 |op ds=>obtain⟨vs,h1,h2⟩:=h;cases h1
 |oe kvs=>obtain⟨U,bh,h1,h2,h3⟩:=h;cases h1
 |_=>exact h
noncomputable abbrev aD:=List Sl
structure Bs where
 g:Hp
 h:Hp
 p:ae
noncomputable abbrev Wi:=Str->Int->St->Hp->Prop
noncomputable def ZM(fd:df):Bool:=match fd.body with
 | .stmts ss=>(match ss.getLast? with
  |some (.Return (some (.Call _ _ (k::_) _)) _)=>(match k.value with|.Lambda _ _ _ _=>true|_=>false)
  |_=>false)
 |_=>false
noncomputable def adx(K:ai):List (ae×Str):=K.filterMap fun p=>match p.2.data with
 | .func fd=>if ZM fd then (match fd.code with
  | .ref c=>(match K.lookup c with
   |some oc=>(match oc.data with|.fields vs=>(match (vs[11]?:Option aa) with|some (.ref P)=>some (P,fd.qualname++(".<locals>.<lambda>":Str))|_=>none)|_=>none)
   |none=>none)
  |_=>none) else none
 |_=>none
noncomputable def Cok(K:ai)(H:Hp):Prop:=∀x∈adx K,H x.1=some (.tab x.2)
theorem Cok.same{K:ai}{H H':Hp}(h:Cok K H)(e:Same H H'):Cok K H':=fun x m=>e _ _ (h x m)
theorem Cok.upd{K:ai}{H:Hp}{a:ae}{o u:HO}(h:Cok K H)(e:H a=some u)(n:∀q,u≠.tab q):Cok K (upd H a o):=fun x m=>by have:=h x m;rw[aW (fun z=>by subst z;rw[e]at this;exact n _ (et this))];exact this
theorem qG.tab{K:ai}{G:Hp}{a:ae}{z:Sl}{o:HO}(h:qG K G a z o):∀q,o≠.tab q:=fun q e=>by
 subst e;cases z with
 |ow ds=>obtain⟨vs,h1,h2⟩:=h;cases h1
 |od kvs=>obtain⟨U,bh,h1,h2,h3⟩:=h;cases h1
 |op ds=>obtain⟨vs,h1,h2⟩:=h;cases h1
 |oe kvs=>obtain⟨U,bh,h1,h2,h3⟩:=h;cases h1
 |_=>exact h
structure Ext (G H G' H':Hp):Prop where
 gg:Same G G'
 hh:Same H H'
 gh:Same G' H'
 tp:∀a xs,H' a=some (.tup xs)->G' a=some (.tup xs)
 nw:∀b o,H b=some o->G b=none->G' b=none
theorem Ext.trans{G H G1 H1 G2 H2:Hp}(a:Ext G H G1 H1)(b:Ext G1 H1 G2 H2):Ext G H G2 H2 :=
 ⟨a.gg.trans b.gg,a.hh.trans b.hh,b.gh,b.tp,fun c o h n=>b.nw c o (a.hh c o h) (a.nw c o h n)⟩
theorem Ext.refl{G H:Hp}(gh:Same G H)(tp:∀a xs,H a=some (.tup xs)->G a=some (.tup xs)):Ext G H G H:=⟨.refl _,.refl _,gh,tp,fun _ _ _ n=>n⟩
structure SR (K:ai)(B:Bs)(σ:St)(H:Hp)(ρ:aD)(G:Hp):Prop where
 en:Ext B.1 B.2 G H
 len:ρ.length=σ.length
 fz:∀(i:Nat) (d:D),ρ[i]?=some (.fz d)->∃v,σ[i]?=some (some v)/\Rep K G d v
 own:∀(i:Nat) (z:Sl),ρ[i]?=some z->z.own=true->∃a o,σ[i]?=some (some (.ref a))/\H a=some o/\G a=none/\B.2 a=none/\qG K G a z o
 ap:∀(i j:Nat) (z z':Sl) (a:ae),ρ[i]?=some z->z.own=true->ρ[j]?=some z'->z'.own=true->σ[i]?=some (some (.ref a))->σ[j]?=some (some (.ref a))->i=j
 tie:∀(i:Nat) (z:Sl) (a:ae),ρ[i]?=some z->z.lnt=true->σ[i]?=some (some (.ref a))->a=B.3
 co:Cok K H
structure Ex0 (K:ai)(G H:Hp):Prop extends Ext G H G H where
 co:Cok K H
section
variable{K:ai}{B:Bs}{σ:St}{H H' G G':Hp}{ρ:aD}
theorem SR.Bl(h:SR K B σ H ρ G):Ext G H G H:=.refl h.en.gh h.en.tp
theorem SR.ext(h:SR K B σ H ρ G)(e:Ext G H G' H'):SR K B σ H' ρ G' where
 en:=h.en.trans e
 len:=h.len
 fz:=fun i d q=>let ⟨v,h1,h2⟩:=h.fz i d q;⟨v,h1,h2.mono e.gg⟩
 own:=fun i z q w=>let ⟨a,o,h1,h2,h3,h4,h5⟩:=h.own i z q w;⟨a,o,h1,e.hh _ _ h2,e.nw _ _ h2 h3,h4,h5.mono e.gg⟩
 ap:=h.ap
 tie:=h.tie
 co:=h.co.same e.hh
theorem SR.ex0(h:SR K B σ H ρ G):Ex0 K G H:=⟨h.Bl,h.co⟩
theorem SR.set(h:SR K B σ H ρ G){i:Nat}{d:D}{v:V}(r:Rep K G d v):SR K B (σ.set i (some v)) H (ρ.set i (.fz d)) G where
 en:=h.en
 len:=by simp[h.len]
 fz:=fun j d' q=>by
  by_cases e:i=j
  ·subst e;have hl:i < ρ.length:=by have:=(dm.mp q).1;simpa using this
   rw[dy hl]at q;cases q;exact⟨v,dy (by rw[<- h.len];exact hl),r⟩
  ·rw[cK e]at q;rw[cK e];exact h.fz j d' q
 own:=fun j z q w=>by
  by_cases e:i=j
  ·subst e;have hl:i < ρ.length:=by have:=(dm.mp q).1;simpa using this
   rw[dy hl]at q;cases q;cases w
  ·rw[cK e]at q;rw[cK e];exact h.own j z q w
 ap:=fun j k z z' a q1 w1 q2 w2 q3 q4=>by
  have ne:∀(l:Nat) (z:Sl),(ρ.set i (.fz d))[l]?=some z->z.own=true->i≠l:=fun l z q w e=>by
   subst e;have hl:i < ρ.length:=by have:=(dm.mp q).1;simpa using this
   rw[dy hl]at q;cases q;cases w
  have n1:=ne j z q1 w1;have n2:=ne k z' q2 w2;rw[cK n1]at q1 q3;rw[cK n2]at q2 q4;exact h.ap j k z z' a q1 w1 q2 w2 q3 q4
 tie:=fun j z a q1 w q2=>by
  have e:i≠j:=fun e=>by
   subst e;have hl:i < ρ.length:=by have:=(dm.mp q1).1;simpa using this
   rw[dy hl]at q1;cases q1;cases w
  rw[cK e]at q1 q2;exact h.tie j z a q1 w q2
 co:=h.co
theorem SR.ow(h:SR K B σ H ρ G)(i:Nat)(ds:List D)(q:ρ[i]?=some (.ow ds)):∃a vs,σ[i]?=some (some (.ref a))/\H a=some (.lst vs)/\G a=none/\B.2 a=none/\bD K G ds vs:=by obtain⟨a,o,h1,h2,h3,h4,vs,rfl,h5⟩:=h.own i _ q rfl;exact⟨a,vs,h1,h2,h3,h4,h5⟩
theorem xZ(gh:Same G H)(tp:∀a xs,H a=some (.tup xs)->G a=some (.tup xs)){p:ae}{xs:List V}(hp:H p=none):Ext G H (upd G p (.tup xs)) (upd H p (.tup xs)) where
 gg:=fun b o e=>by rw[aW (aR (gh _ _ e) hp)];exact e
 hh:=fun b o e=>by rw[aW (aR e hp)];exact e
 gh:=fun b o e=>by
  by_cases q:b=p
  ·subst q;rw[aZ]at e ⊢;exact e
  ·rw[aW q]at e ⊢;exact gh _ _ e
 tp:=fun b ys e=>by
  by_cases q:b=p
  ·subst q;rw[aZ]at e ⊢;exact e
  ·rw[aW q]at e ⊢;exact tp _ _ e
 nw:=fun b o e n=>by rw[aW (aR e hp)];exact n
theorem pB(gh:Same G H)(tp:∀a xs,H a=some (.tup xs)->G a=some (.tup xs)){p:ae}{xs:List V}(hp:H p=none):Ext G H (upd G p (.lst xs)) (upd H p (.lst xs)) where
 gg:=fun b o e=>by rw[aW (aR (gh _ _ e) hp)];exact e
 hh:=fun b o e=>by rw[aW (aR e hp)];exact e
 gh:=fun b o e=>by
  by_cases q:b=p
  ·subst q;rw[aZ]at e ⊢;exact e
  ·rw[aW q]at e ⊢;exact gh _ _ e
 tp:=fun b ys e=>by
  by_cases q:b=p
  ·subst q;rw[aZ]at e;cases e
  ·rw[aW q]at e ⊢;exact tp _ _ e
 nw:=fun b o e n=>by rw[aW (aR e hp)];exact n
theorem ZP(gh:Same G H)(tp:∀a xs,H a=some (.tup xs)->G a=some (.tup xs)){p:ae}{o:HO}(ho:∀xs,o≠.tup xs)(hp:H p=none):Ext G H G (upd H p o) where
 gg:=.refl _
 hh:=fun b o e=>by rw[aW (aR e hp)];exact e
 gh:=fun b o e=>by rw[aW (aR (gh _ _ e) hp)];exact gh _ _ e
 tp:=fun b ys e=>by
  by_cases q:b=p
  ·subst q;rw[aZ]at e;cases e;exact absurd rfl (ho ys)
  ·rw[aW q]at e;exact tp _ _ e
 nw:=fun b o e n=>n
theorem Oc(gh:Same G H)(tp:∀a xs,H a=some (.tup xs)->G a=some (.tup xs)){p:ae}{xs:List V}(hp:H p=none):Ext G H G (upd H p (.lst xs)) where
 gg:=.refl _
 hh:=fun b o e=>by rw[aW (aR e hp)];exact e
 gh:=fun b o e=>by rw[aW (aR (gh _ _ e) hp)];exact gh _ _ e
 tp:=fun b ys e=>by
  by_cases q:b=p
  ·subst q;rw[aZ]at e;cases e
  ·rw[aW q]at e;exact tp _ _ e
 nw:=fun b o e n=>n
end
noncomputable def Post(K:ai)(W:Wi)(σ:St)(G H:Hp)(r:Rs D)(Q:VK):Prop :=
 match r with
 | .ok d=>∀v H' G',Ext G H G' H'->Rep K G' d v->Q v H'
 | .ex c n=>∀H' G',Ext G H G' H'->W c n σ H'
 | .no=>False
noncomputable def tF(K:ai)(B:Bs)(W:Wi)(f:aD->Rs D):TE:=fun σ H Q=>∃ρ G,SR K B σ H ρ G/\Post K W σ G H (f ρ) Q
noncomputable def SE(X:Cx)(B:Bs)(W:Wi)(e:ag)(f:aD->Rs D):Prop:=PE X e (tF X.K B W f)
theorem PE.imp{X:Cx}{e:ag}{t t':TE}(h:PE X e t)(i:∀σ H Q,t' σ H Q->t σ H Q):PE X e t':=fun pins s σ H Q I q=>h pins s σ H Q I (i σ H Q q)
theorem PT.imp{X:Cx}{e:ag}{t t':TT}(h:PT X e t)(i:∀σ H Q,t' σ H Q->t σ H Q):PT X e t':=fun pins s σ H Q I q=>h pins s σ H Q I (i σ H Q q)
theorem PA.imp{X:Cx}{e:List ag}{t t':TA}(h:PA X e t)(i:∀σ H Q,t' σ H Q->t σ H Q):PA X e t':=fun pos pins s σ H Q I q=>h pos pins s σ H Q I (i σ H Q q)
theorem PS.imp{X:Cx}{e:bg}{t t':TS}(h:PS X e t)(i:∀De σ H,t' De σ H->t De σ H):PS X e t':=fun pins s σ H De I q=>h pins s σ H De I (i De σ H q)
theorem DG.imp{X:Cx}{e:List bg}{t t':TS}(h:DG X e t)(i:∀De σ H,t' De σ H->t De σ H):DG X e t':=fun pins s σ H De I q=>h pins s σ H De I (i De σ H q)
section
variable{X:Cx}{K:ai}{B:Bs}{W:Wi}{σ:St}{G H:Hp}{ρ:aD}{Q Q':VK}
theorem Post.mono{r:Rs D}(h:Post K W σ G H r Q)(i:∀v H',Q v H'->Q' v H'):Post K W σ G H r Q':=by
 cases r with
 |ok d=>exact fun v H' G' e r=>i _ _ (h v H' G' e r)
 |ex c n=>exact h
 |no=>exact h
theorem Post.ext{r:Rs D}{G' H':Hp}(e:Ext G H G' H')(h:Post K W σ G H r Q):Post K W σ G' H' r Q:=by
 cases r with
 |ok d=>exact fun v Od G'' e' r=>h v Od G'' (e.trans e') r
 |ex c n=>exact fun Od G'' e'=>h Od G'' (e.trans e')
 |no=>exact h
theorem Post.bind{r:Rs D}{k:D->Rs D}(h:Post K W σ G H (r.bind k) Q) :
  Post K W σ G H r fun v H1=>∃G1 d,Ext G H G1 H1/\Rep K G1 d v/\Post K W σ G1 H1 (k d) Q:=by
 cases r with
 |ok d=>exact fun v H' G' e r=>⟨G',d,e,r,Post.ext e h⟩
 |ex c n=>exact h
 |no=>exact h
theorem Post.ok{d:D}{v:V}(s:SR K B σ H ρ G)(h:Post K W σ G H (.ok d) Q)(r:Rep K G d v):Q v H:=h v H G s.Bl r
theorem rT{f:aD->Rs D}{k:aD->D->Rs D}(h:tF K B W (fun ρ=>(f ρ).bind (k ρ)) σ H Q) :
  tF K B W f σ H fun v H1=>∃ρ G1 d,SR K B σ H1 ρ G1/\Rep K G1 d v/\Post K W σ G1 H1 (k ρ d) Q:=by
 obtain⟨ρ,G,s,p⟩:=h;exact⟨ρ,G,s,p.bind.mono fun v H1 ⟨G1,d,e,r,q⟩=>⟨ρ,G1,d,s.ext e,r,q⟩⟩
theorem TQ{f:aD->Rs D}{k:D->D->Rs D}{v:V}(h:∃ρ G1 d,SR K B σ H ρ G1/\Rep K G1 d v/\Post K W σ G1 H ((f ρ).bind (k d)) Q) :
  tF K B W f σ H fun u H1=>∃ρ G1 d d',SR K B σ H1 ρ G1/\Rep K G1 d v/\Rep K G1 d' u/\Post K W σ G1 H1 (k d d') Q:=by
 obtain⟨ρ,G,d,s,r,p⟩:=h;exact⟨ρ,G,s,p.bind.mono fun u H1 ⟨G1,d',e,r',q⟩=>⟨ρ,G1,d,d',s.ext e,r.mono e.gg,r',q⟩⟩
noncomputable def aq(i:Nat):aD->Rs D:=fun ρ=>match ρ[i]? with|some (.fz d)=>.ok d|_=>.no
noncomputable def fC(d:D):aD->Rs D:=fun _=>.ok d
theorem ady{e:ag}{i:Nat}(h:PE X e (yL i)):SE X B W e (aq i):=PE.imp h fun σ H Q ⟨ρ,G,s,p⟩=>by
 unfold aq at p;cases q:ρ[i]? with
 |none=>rw[q]at p;exact p.elim
 |some x =>
  rw[q]at p;cases x with
  |no=>exact p.elim
  |ow _=>exact p.elim
  |od _=>exact p.elim
  |op _=>exact p.elim
  |oe _=>exact p.elim
  |fz d =>
   obtain⟨v,h1,h2⟩:=s.fz i d q;exact⟨v,h1,Post.ok s p h2⟩
theorem sv(i:Nat){x:Str}{pos:Pos}(hN:X.N[i]?=some x:=by rfl)(hv:Gz X.env.scope x:=by first|exact Or.inl rfl|exact Or.inr (Or.inl rfl)|exact Or.inr (Or.inr rfl))(hd:qx x:=by decide)
  (hcd:GP x:=by decide):SE X B W (.Name x pos) (aq i):=ady (iw hN hv hd hcd)
theorem ZQ{e:ag}{v:V}{d:D}(h:PE X e (tC v))(r:∀G,Rep X.K G d v):SE X B W e (fC d):=PE.imp h fun σ H Q ⟨ρ,G,s,p⟩=>Post.ok s p (r G)
theorem au{i:Int}{j pos}:SE X B W (.Constant (.int i) j pos) (fC (.int i)):=ZQ acJ fun _=>aX.mpr rfl
theorem ju{b:Bool}{j pos}:SE X B W (.Constant (.bool b) j pos) (fC (.bl b)):=ZQ afK fun _=>cZ.mpr rfl
theorem iZ{x j pos}:SE X B W (.Constant (.str x) j pos) (fC (.str x)):=ZQ acK fun _=>rR.mpr rfl
noncomputable def aQ(g:D->D->Rs D)(fa fb:aD->Rs D):aD->Rs D:=fun ρ=>(fa ρ).bind fun x=>(fb ρ).bind fun y=>g x y
noncomputable def RT(K:ai)(r:R2)(g:D->D->Rs D):Prop :=
 ∀(B:Bs) (W:Wi) (σ:St) (ρ:aD) (G H:Hp) (x y:D) (v u:V) (Q:VK),SR K B σ H ρ G->Rep K G x v->Rep K G y u->Post K W σ G H (g x y) Q->r v u H Q
theorem Ed{r:R2}{g:D->D->Rs D}{fa fb:aD->Rs D}(ho:RT K r g)(h:tF K B W (aQ g fa fb) σ H Q):tOp r (tF K B W fa) (tF K B W fb) σ H Q:=by obtain⟨ρ,G,s,p⟩:=rT (k:=fun ρ x=>(fb ρ).bind fun y=>g x y) h;refine⟨ρ,G,s,p.mono fun v H1 h1=>?_⟩;obtain⟨ρ,G,s,p⟩:=TQ (k:=g) h1;exact⟨ρ,G,s,p.mono fun u H2 ⟨ρ2,G2,d,d',s2,r1,r2,p2⟩=>ho B W σ ρ2 G2 H2 d d' v u Q s2 r1 r2 p2⟩
theorem uQ{a b:ag}{op:Operator}{pos:Pos}{r:R2}{g:D->D->Rs D}{fa fb:aD->Rs D}(ho:rP X (fx op) r)(hg:RT X.K r g)(ha:SE X B W a fa)(hb:SE X B W b fb):SE X B W (.BinOp a op b pos) (aQ g fa fb) :=
 PE.imp (afX ho ha hb) fun _ _ _ h=>Ed hg h
noncomputable def gI(C:Int->Int->Prop)[∀i j,Decidable (C i j)](g:Int->Int->D):D->D->Rs D
 | .int i,.int j=>if C i j then .ok (g i j) else .no
 |_,_=>.no
theorem Hr{C:Int->Int->Prop}[∀i j,Decidable (C i j)]{gv:Int->Int->V}{g:Int->Int->D}(hg:∀G i j,Rep K G (g i j) (gv i j)):RT K (rI C gv) (gI C g):=by
 intro B W σ ρ G H x y v u Q s rx ry p;cases x <;> first|exact p.elim|skip
 rename_i i;cases y <;> first|exact p.elim|skip
 rename_i j;simp only[gI]at p;by_cases c:C i j
 ·rw[if_pos c]at p;exact⟨i,j,aX.mp rx,aX.mp ry,c,Post.ok s p (hg G i j)⟩
 ·rw[if_neg c]at p;exact p.elim
noncomputable def gI0(g:Int->Int->D):D->D->Rs D
 | .int i,.int j=>.ok (g i j)
 |_,_=>.no
theorem wj{gv:Int->Int->V}{g:Int->Int->D}(hg:∀G i j,Rep K G (g i j) (gv i j)):RT K (Tc gv) (gI0 g):=by
 intro B W σ ρ G H x y v u Q s rx ry p;cases x <;> first|exact p.elim|skip
 rename_i i;cases y <;> first|exact p.elim|skip
 rename_i j;exact⟨i,j,aX.mp rx,aX.mp ry,Post.ok s p (hg G i j)⟩
end
mutual
noncomputable def oF:D->D->Bool
 | .tup a,.tup b=>wk a b
 | .lst a,.lst b=>wk a b
 | .non,.non=>true
 | .bl a,.bl b=>a == b
 | .bl a,.int b=>(if a then 1 else 0) == b
 | .int a,.bl b=>a == (if b then 1 else 0)
 | .int a,.int b=>a == b
 | .str a,.str b=>a == b
 | .GF a b,.GF c d=>a == c && b == d
 | .GJ _ _,.GJ _ _=>true
 | .fn a,.fn b=>a == b
 | .obj _ _ _,.obj _ _ _=>true
 |_,_=>false
noncomputable def wk:List D->List D->Bool
 | [],[]=>true
 |a::as,b::bs=>oF a b && wk as bs
 |_,_=>false
end
mutual
noncomputable def gP:D->Nat
 | .tup a=>gw a + 1
 | .lst a=>gw a + 1
 | .GF _ _=>bu
 | .GJ _ _=>bu
 | .fn _=>bu
 | .obj _ _ _=>bu
 |_=>0
noncomputable def gw:List D->Nat
 | []=>0
 |a::as=>Nat.max (gP a) (gw as)
end
mutual
theorem uR:∀d:D,oF d d=true
 | .non=>by simp[oF]
 | .bl _=>by simp[oF]
 | .int _=>by simp[oF]
 | .str _=>by simp[oF]
 | .tup a=>by simp[oF,wu a]
 | .lst a=>by simp[oF,wu a]
 | .GF _ _=>by simp[oF]
 | .GJ _ _=>by simp[oF]
 | .fn _=>by simp[oF]
 | .obj _ _ _=>by simp[oF]
theorem wu:∀d:List D,wk d d=true
 | []=>by simp[wk]
 |a::as=>by simp[wk,uR a,wu as]
end
theorem dR:∀(a b:List D),((bS (min a.length b.length)).all (fun j=>oF (a.getD j .non) (b.getD j .non)) && a.length == b.length)=wk a b
 | [],[]=>by simp[wk]
 | [],b::bs=>by simp[wk]
 |a::as,[]=>by simp[wk]
 |a::as,b::bs=>by have ih:=dR as bs;rw[wk,<- ih];rw[show min (a::as).length (b::bs).length=min as.length bs.length + 1 by simp];rw[nS,List.all_cons,List.all_map];simp[s_,Bool.and_assoc]
theorem uT{d:D}:∀{ds:List D},d∈ds->gP d<=gw ds
 | [],h=>by cases h
 |x::xs,h=>by
  rw[gw];rcases cm.mp h with rfl|h
  ·exact Nat.le_max_left _ _
  ·exact cx (uT h) (td _ _)
section
variable{X:Cx}{pins:List (ae×Obj)}{σ:St}{H:Hp}{s:af}
theorem Hs(I:Inv X pins σ H s){a:ae}{xs ys:List V}(h:qp X.K H a xs)(h':mX X.K H a ys):False:=by obtain⟨_,_,⟨o,n,e,c,_,_⟩,_⟩:=I.list h;obtain⟨_,_,⟨o',e',c',_⟩,_⟩:=I.tuple h';rw[e]at e';cases e';rw[c]at c';exact absurd c' (by decide)
theorem Ht(I:Inv X pins σ H s){a:ae}{xs:List V}{φ:aE->Prop}(h:mX X.K H a xs)(h':H a=some (.ext φ)):False:=by
 rcases h with (h|⟨o,h⟩)|⟨o,its,n,hk,_⟩
 ·rw[h']at h;cases h
 ·rw[h']at h;cases h
 ·have:=(I.bs a o (I.mod.RN a o hk)).2;rw[h']at this;cases this
theorem Hu(I:Inv X pins σ H s){a:ae}{xs:List V}{φ:aE->Prop}(h:qp X.K H a xs)(h':H a=some (.ext φ)):False:=by
 rcases h with (h|⟨o,h⟩)|⟨o,its,n,hk,_⟩
 ·rw[h']at h;cases h
 ·rw[h']at h;cases h
 ·have:=(I.bs a o (I.mod.RN a o hk)).2;rw[h']at this;cases this
theorem ZR{a:ae}{xs:List V}{o:Obj}{fd:df}(I:Inv X pins σ H s)(h:mX X.K H a xs)(hk:X.K.lookup a=some o)(hd:o.data=.func fd):False:=by
 have hn:=(I.bs a o (I.mod.RN a o hk)).2;rcases h with (h|⟨o',h⟩)|⟨o',its,n,hk',hs⟩
 ·rw[hn]at h;cases h
 ·rw[hn]at h;cases h
 ·rw[hk]at hk';cases hk';rcases hs with ⟨_,hs,_⟩;rw[hd]at hs;cases hs
theorem ZS{a:ae}{xs:List V}{o:Obj}{fd:df}(I:Inv X pins σ H s)(h:qp X.K H a xs)(hk:X.K.lookup a=some o)(hd:o.data=.func fd):False:=by
 have hn:=(I.bs a o (I.mod.RN a o hk)).2;rcases h with (h|⟨o',h⟩)|⟨o',its,n,hk',hs⟩
 ·rw[hn]at h;cases h
 ·rw[hn]at h;cases h
 ·rw[hk]at hk';cases hk';rcases hs with ⟨_,_,hs,_⟩;rw[hd]at hs;cases hs
theorem TV(I:Inv X pins σ H s){a C dx:ae}{xs:List V}{fs:List (Str×V)}(h:mX X.K H a xs)(h':H a=some (.ins C dx fs)):False:=by
 rcases h with (h|⟨o,h⟩)|⟨o,its,n,hk,_⟩
 ·rw[h']at h;cases h
 ·rw[h']at h;cases h
 ·have:=(I.bs a o (I.mod.RN a o hk)).2;rw[h']at this;cases this
theorem TX(I:Inv X pins σ H s){a C dx:ae}{xs:List V}{fs:List (Str×V)}(h:qp X.K H a xs)(h':H a=some (.ins C dx fs)):False:=by
 rcases h with (h|⟨o,h⟩)|⟨o,its,n,hk,_⟩
 ·rw[h']at h;cases h
 ·rw[h']at h;cases h
 ·have:=(I.bs a o (I.mod.RN a o hk)).2;rw[h']at this;cases this
mutual
theorem Rep.inj(I:Inv X pins σ H s):∀{d d':D}{v:V},gP d < bu->Rep X.K H d v->Rep X.K H d' v->d=d'
 | .non,d',v,_,h,h'=>by
  rw[pA.mp h]at h';cases d' <;> simp only[Rep]at h' <;> first|rfl|(obtain⟨a,vs,e,_⟩:=h';cases e;done)|(obtain⟨a,U,bh,e,_⟩:=h';cases e;done)|(obtain⟨a,C,dx,us,e,_⟩:=h';cases e;done)|(cases h';rfl)|cases h'
 | .bl _,d',v,_,h,h'=>by
  rw[cZ.mp h]at h';cases d' <;> simp only[Rep]at h' <;> first|rfl|(obtain⟨a,vs,e,_⟩:=h';cases e;done)|(obtain⟨a,U,bh,e,_⟩:=h';cases e;done)|(obtain⟨a,C,dx,us,e,_⟩:=h';cases e;done)|(cases h';rfl)|cases h'
 | .int _,d',v,_,h,h'=>by
  rw[aX.mp h]at h';cases d' <;> simp only[Rep]at h' <;> first|rfl|(obtain⟨a,vs,e,_⟩:=h';cases e;done)|(obtain⟨a,U,bh,e,_⟩:=h';cases e;done)|(obtain⟨a,C,dx,us,e,_⟩:=h';cases e;done)|(cases h';rfl)|cases h'
 | .str _,d',v,_,h,h'=>by
  rw[rR.mp h]at h';cases d' <;> simp only[Rep]at h' <;> first|rfl|(obtain⟨a,vs,e,_⟩:=h';cases e;done)|(obtain⟨a,U,bh,e,_⟩:=h';cases e;done)|(obtain⟨a,C,dx,us,e,_⟩:=h';cases e;done)|(cases h';rfl)|cases h'
 | .tup ds,d',v,hd,h,h'=>by
  obtain⟨a,vs,rfl,q,r⟩:=bN.mp h;cases d' with
  |tup es =>
   obtain⟨b,us,e,q',r'⟩:=bN.mp h';cases e;rw[I.Cg q' q]at r';rw[bD.inj I (by simp only[gP]at hd;lia) r r']
  |lst es =>
   obtain⟨b,us,e,q',r'⟩:=bJ.mp h';cases e;exact(Hs I q' q).elim
  |GF c n =>
   obtain⟨b,C,_,e,_,q',_⟩:=NZ.mp h';cases e;exact(Ht I q q').elim
  |fn c =>
   obtain⟨b,o,fd,e,_,q1,q2⟩:=Ec.mp h';cases e;exact(ZR I q q1 q2).elim
  |obj c ns es =>
   obtain⟨b,C,dx,us,e,_,q',_⟩:=Oa.mp h';cases e;exact(TV I q q').elim
  |GJ c n =>
   obtain⟨b,U,bh,e,⟨_,q'⟩,_⟩:=Ob.mp h';cases e;exact(Ht I q q').elim
  |_=>simp only[Rep]at h';cases h'
 | .lst ds,d',v,hd,h,h'=>by
  obtain⟨a,vs,rfl,q,r⟩:=bJ.mp h;cases d' with
  |lst es =>
   obtain⟨b,us,e,q',r'⟩:=bJ.mp h';cases e;rw[I.Hf q' q]at r';rw[bD.inj I (by simp only[gP]at hd;lia) r r']
  |tup es =>
   obtain⟨b,us,e,q',r'⟩:=bN.mp h';cases e;exact(Hs I q q').elim
  |GF c n =>
   obtain⟨b,C,_,e,_,q',_⟩:=NZ.mp h';cases e;exact(Hu I q q').elim
  |fn c =>
   obtain⟨b,o,fd,e,_,q1,q2⟩:=Ec.mp h';cases e;exact(ZS I q q1 q2).elim
  |obj c ns es =>
   obtain⟨b,C,dx,us,e,_,q',_⟩:=Oa.mp h';cases e;exact(TX I q q').elim
  |GJ c n =>
   obtain⟨b,U,bh,e,⟨_,q'⟩,_⟩:=Ob.mp h';cases e;exact(Hu I q q').elim
  |_=>simp only[Rep]at h';cases h'
 | .GF _ _,d',v,hd,h,h'=>by simp only[gP]at hd;exact absurd hd (f_ _)
 | .GJ _ _,d',v,hd,h,h'=>by simp only[gP]at hd;exact absurd hd (f_ _)
 | .fn _,d',v,hd,h,h'=>by simp only[gP]at hd;exact absurd hd (f_ _)
 | .obj _ _ _,d',v,hd,h,h'=>by simp only[gP]at hd;exact absurd hd (f_ _)
theorem bD.inj(I:Inv X pins σ H s):∀{ds es:List D}{vs:List V},gw ds < bu->bD X.K H ds vs->bD X.K H es vs->ds=es
 | [],es,vs,_,h,h'=>by
  rw[bA.mp h]at h';cases es with
  |nil=>rfl
  |cons e es=>obtain⟨v,vs',e1,_⟩:=aV.mp h';cases e1
 |d::ds,es,vs,hd,h,h'=>by
  obtain⟨v,vs',rfl,r1,r2⟩:=aV.mp h;simp only[gw]at hd;cases es with
  |nil=>have:=bA.mp h';cases this
  |cons e es =>
   obtain⟨v',vs'',e1,r1',r2'⟩:=aV.mp h';cases e1;rw[Rep.inj I (ir (Nat.le_max_left _ _) hd) r1 r1',bD.inj I (ir (td _ _) hd) r2 r2']
end
theorem yP(I:Inv X pins σ H s){m:Nat}{A:ba}{ds es:List D}{vs us:List V}{its its2:List aa}
  (ih:∀{d d':D}{v v':V}{u u':aa}{A:ba},gP d<=m->gP d'<=m->A.units + m < bu->Rep X.K H d v->Rep X.K H d' v'->RelV v u->RelV v' u'->lS A s u u' (oF d d'))
  (hn:gw ds<=m) (hn':gw es<=m) (hu:A.in1.units + m < bu) (r1:bD X.K H ds vs) (r2:bD X.K H es us) (a1:Vals vs its) (a2:Vals us its2) :
  ∀j (h1:j < its.toArray.size) (h2:j < its2.toArray.size),lS A.in1 s its.toArray[j] its2.toArray[j] (oF (ds.getD j .non) (es.getD j .non)):=by
 intro j h1 h2;have l1:j < ds.length:=by rw[r1.length,a1.length];simpa using h1
 have l2:j < es.length:=by rw[r2.length,a2.length];simpa using h2
 obtain⟨x,hx,rx⟩:=r1.get (i:=j) (d:=ds[j]) (by simp[l1]);obtain⟨y,hy,ry⟩:=r2.get (i:=j) (d:=es[j]) (by simp[l2]);obtain⟨p,hp,rp⟩:=a1.get hx;obtain⟨q,hq,rq⟩:=a2.get hy;have e1:its.toArray[j]=p:=by have:=(dm.mp hp).2;simpa using this
 have e2:its2.toArray[j]=q:=by have:=(dm.mp hq).2;simpa using this
 rw[e1,e2,gx,gx,d9 l1,d9 l2];exact ih (cx (uT (eW l1)) hn) (cx (uT (eW l2)) hn') hu rx ry rp rq
inductive Kd (X:Cx) (H:Hp) (s:af):D->aa->Prop
 |n:Kd X H s .non .none
 |b (x:Bool):Kd X H s (.bl x) (.bool x)
 |i (x:Int) (t:Tok):Kd X H s (.int x) (.int x t)
 |s (x:Str) (t:Tok):Kd X H s (.str x) (.str x t)
 |t {a:ae}{its:List aa}(ds:List D):s.heap.IsTuple a its.toArray->Kd X H s (.tup ds) (.ref a)
 |l {a:ae}{its:List aa}(ds:List D):s.heap.IsList a its.toArray->Kd X H s (.lst ds) (.ref a)
theorem wZ(I:Inv X pins σ H s){n:Nat}{d:D}{v:V}{u:aa}(hd:gP d<=n)(hn:n < bu)(r:Rep X.K H d v)(e:RelV v u):Kd X H s d u:=by
 cases d with
 |non=>rw[pA.mp r]at e;cases e;exact .n
 |bl x=>rw[cZ.mp r]at e;cases e;exact .b x
 |int x=>rw[aX.mp r]at e;obtain⟨t,rfl⟩:=e;exact .i x t
 |str x=>rw[rR.mp r]at e;obtain⟨t,rfl⟩:=e;exact .s x t
 |tup ds=>obtain⟨a,vs,rfl,q,_⟩:=bN.mp r;cases e;obtain⟨its,_,t,_⟩:=I.tuple q;exact .t ds t
 |lst ds=>obtain⟨a,vs,rfl,q,_⟩:=bJ.mp r;cases e;obtain⟨its,_,t,_⟩:=I.list q;exact .l ds t.isList
 |_=>simp only[gP]at hd;exact absurd hn (by lia)
noncomputable def sk:D->D->Bool
 | .tup _,.tup _=>true
 | .lst _,.lst _=>true
 |_,_=>false
open SeqAt in
theorem Hv{d d':D}{u u':aa}{A:ba}(k:Kd X H s d u)(k':Kd X H s d' u')(hu:A.units < bu)(hs:sk d d'=false):EqAt A s u u' (oF d d'):=by
 cases k with
 |n =>
  cases k' with
  |n=>exact EqAt.same _
  |b y=>exact EqAt.none_bool y
  |i y r=>exact EqAt.none_int y r
  |s y r=>exact EqAt.none_str y r
  |t es g=>exact EqAt.none_tuple g hu
  |l es g=>exact EqAt.none_list g hu
 |b x =>
  cases k' with
  |n=>exact EqAt.bool_none x
  |b y=>exact EqAt.bool_bool x y
  |i y r=>exact EqAt.bool_int x y r
  |s y r=>exact EqAt.bool_str x y r
  |t es g=>exact EqAt.bool_tuple x g hu
  |l es g=>exact EqAt.bool_list x g hu
 |i x t =>
  cases k' with
  |n=>exact EqAt.int_none x t
  |b y=>exact EqAt.int_bool x t y
  |i y r=>exact EqAt.int_int x t y r
  |s y r=>exact EqAt.int_str x t y r
  |t es g=>exact EqAt.int_tuple x t g hu
  |l es g=>exact EqAt.int_list x t g hu
 |s x t =>
  cases k' with
  |n=>exact EqAt.str_none x t
  |b y=>exact EqAt.str_bool x t y
  |i y r=>exact EqAt.str_int x t y r
  |s y r=>exact EqAt.str_str x t y r
  |t es g=>exact EqAt.str_tuple x t g hu
  |l es g=>exact EqAt.str_list x t g hu
 |t ds h =>
  cases k' with
  |n=>exact EqAt.tuple_none h hu
  |b y=>exact EqAt.tuple_bool y h hu
  |i y r=>exact EqAt.tuple_int y r h hu
  |s y r=>exact EqAt.tuple_str y r h hu
  |t es g=>cases hs
  |l es g=>exact EqAt.tuple_list h g hu
 |l ds h =>
  cases k' with
  |n=>exact EqAt.list_none h hu
  |b y=>exact EqAt.list_bool y h hu
  |i y r=>exact EqAt.list_int y r h hu
  |s y r=>exact EqAt.list_str y r h hu
  |t es g=>exact EqAt.list_tuple h g hu
  |l es g=>cases hs
open SeqAt in
theorem TY(I:Inv X pins σ H s):∀(n:Nat) {d d':D}{v v':V}{u u':aa}{A:ba},gP d<=n->gP d'<=n->A.units + n < bu->Rep X.K H d v->Rep X.K H d' v'->RelV v u->RelV v' u'->EqAt A s u u' (oF d d'):=by
 intro n
 induction n with
 |zero =>
  intro d d' v v' u u' A hd hd' hu r r' e e';exact Hv (wZ I hd (by lia) r e) (wZ I hd' (by lia) r' e') (by lia) (by cases d <;> cases d' <;> first|rfl|(simp only[gP]at hd;lia))
 |succ m ih =>
  intro d d' v v' u u' A hd hd' hu r r' e e';have hu0:A.units < bu:=by lia
  cases hs:sk d d' with
  |false=>exact Hv (wZ I hd (by lia) r e) (wZ I hd' (by lia) r' e') hu0 hs
  |true =>
   cases d with
   |tup ds =>
    cases d' with
    |tup es =>
     obtain⟨a,vs,rfl,q,rr⟩:=bN.mp r;cases e;obtain⟨its,av,t,_⟩:=I.tuple q;obtain⟨b,us,rfl,q',rr'⟩:=bN.mp r';cases e';obtain⟨its2,Cr,t2,_⟩:=I.tuple q';have hn:gw ds<=m:=by simp only[gP]at hd;lia
     have hn':gw es<=m:=by simp only[gP]at hd';lia
     by_cases hab:a=b
     ·subst hab;rw[Rep.inj I (by lia) r r',uR];exact EqAt.same _
     have items:=yP I ih hn hn' (show A.in1.units + m < bu by show A.units + 1 + m < _;lia) rr rr' av Cr;have h:=RcAt.tuples (A:=A) t t2 hu0 items;rw[dk,dk,<- av.length,<- Cr.length,<- rr.length,<- rr'.length,dR]at h;exact EqAt.of_refs hab h
    |_=>cases hs
   |lst ds =>
    cases d' with
    |lst es =>
     obtain⟨a,vs,rfl,q,rr⟩:=bJ.mp r;cases e;obtain⟨its,av,t1,_⟩:=I.list q;have t:=t1.isList;obtain⟨b,us,rfl,q',rr'⟩:=bJ.mp r';cases e';obtain⟨its2,Cr,t3,_⟩:=I.list q';have t2:=t3.isList;have hn:gw ds<=m:=by simp only[gP]at hd;lia
     have hn':gw es<=m:=by simp only[gP]at hd';lia
     by_cases hab:a=b
     ·subst hab;rw[Rep.inj I (by lia) r r',uR];exact EqAt.same _
     have items:=yP I ih hn hn' (show A.in1.units + m < bu by show A.units + 1 + m < _;lia) rr rr' av Cr;by_cases hl:its.toArray.size=its2.toArray.size
     ·have h:=RcAt.lists (A:=A) t t2 hl hu0 items;rw[dk,<- av.length,<- rr.length]at h;have hl':ds.length=es.length:=by rw[rr.length,rr'.length,av.length,Cr.length];simpa using hl
      have e1:=dR ds es;rw[hl',tf]at e1;simp only[beq_self_eq_true,ph]at e1;rw[hl',e1]at h;exact EqAt.of_refs hab h
     ·have h:=RcAt.lists_lengths (A:=A) t t2 (by simpa using hl) hu0;have hl':ds.length≠es.length:=by rw[rr.length,rr'.length,av.length,Cr.length];simpa using hl
      have e1:=dR ds es;rw[show(ds.length == es.length)=false by simpa using hl',nV]at e1;rw[show oF (.lst ds) (.lst es)=false by rw[oF,<- e1]];exact EqAt.of_refs hab h
    |_=>cases hs
   |_=>cases d' <;> cases hs
end
section
variable{X:Cx}{pins:List (ae×Obj)}{σ:St}{H:Hp}{s:af}
theorem uU(I:Inv X pins σ H s){m:Nat}{A:ba}{ds es:List D}{vs us:List V}{its its2:List aa}(hn:gw ds<=m)(hn':gw es<=m)(hu:A.in1.units + m < bu)(r1:bD X.K H ds vs)(r2:bD X.K H es us)(a1:Vals vs its)(a2:Vals us its2) :
  ∀j (h1:j < its.toArray.size) (h2:j < its2.toArray.size),lS A.in1 s its.toArray[j] its2.toArray[j] (oF (ds.getD j .non) (es.getD j .non)) :=
 yP I (fun a b c d e f g=>TY I m a b c d e f g) hn hn' hu r1 r2 a1 a2
open SeqAt in
theorem ZV{d d':D}{u u':aa}{A:ba}(k:Kd X H s d u)(k':Kd X H s d' u')(hu:A.units < bu)(hs:sk d d'=false):RcAt A s u u' (oF d d'):=by
 cases k with
 |n =>
  cases k' with
  |n=>exact RcAt.none_none
  |b y=>exact RcAt.none_bool y
  |i y r=>exact RcAt.none_int y r
  |s y r=>exact RcAt.none_str y r
  |t es g=>exact RcAt.none_tuple g hu
  |l es g=>exact RcAt.none_list g hu
 |b x =>
  cases k' with
  |n=>exact RcAt.bool_none x
  |b y=>exact RcAt.bool_bool x y
  |i y r=>exact RcAt.bool_int x y r
  |s y r=>exact RcAt.bool_str x y r
  |t es g=>exact RcAt.bool_tuple x g hu
  |l es g=>exact RcAt.bool_list x g hu
 |i x t =>
  cases k' with
  |n=>exact RcAt.int_none x t
  |b y=>exact RcAt.int_bool x t y
  |i y r=>exact RcAt.int_int x t y r
  |s y r=>exact RcAt.int_str x t y r
  |t es g=>exact RcAt.int_tuple x t g hu
  |l es g=>exact RcAt.int_list x t g hu
 |s x t =>
  cases k' with
  |n=>exact RcAt.str_none x t
  |b y=>exact RcAt.str_bool x t y
  |i y r=>exact RcAt.str_int x t y r
  |s y r=>exact RcAt.str_str x t y r
  |t es g=>exact RcAt.str_tuple x t g hu
  |l es g=>exact RcAt.str_list x t g hu
 |t ds h =>
  cases k' with
  |n=>exact RcAt.tuple_none h hu
  |b y=>exact RcAt.tuple_bool y h hu
  |i y r=>exact RcAt.tuple_int y r h hu
  |s y r=>exact RcAt.tuple_str y r h hu
  |t es g=>cases hs
  |l es g=>exact RcAt.tuple_list h g hu
 |l ds h =>
  cases k' with
  |n=>exact RcAt.list_none h hu
  |b y=>exact RcAt.list_bool y h hu
  |i y r=>exact RcAt.list_int y r h hu
  |s y r=>exact RcAt.list_str y r h hu
  |t es g=>exact RcAt.list_tuple h g hu
  |l es g=>cases hs
open SeqAt in
theorem adA(I:Inv X pins σ H s){n:Nat}{d d':D}{v v':V}{u u':aa}{A:ba}(hd:gP d<=n)(hd':gP d'<=n)(hu:A.units + n < bu)(r:Rep X.K H d v)(r':Rep X.K H d' v')(e:RelV v u)(e':RelV v' u'):RcAt A s u u' (oF d d'):=by
 have hu0:A.units < bu:=by lia
 cases hs:sk d d' with
 |false=>exact ZV (wZ I hd (by lia) r e) (wZ I hd' (by lia) r' e') hu0 hs
 |true =>
  obtain⟨m,rfl⟩:∃m,n=m + 1:=⟨n - 1,by cases d <;> first|(simp only[gP]at hd;lia)|(cases d' <;> cases hs)⟩
  cases d with
  |tup ds =>
   cases d' with
   |tup es =>
    obtain⟨a,vs,rfl,q,rr⟩:=bN.mp r;cases e;obtain⟨its,av,t,_⟩:=I.tuple q;obtain⟨b,us,rfl,q',rr'⟩:=bN.mp r';cases e';obtain⟨its2,Cr,t2,_⟩:=I.tuple q';have hn:gw ds<=m:=by simp only[gP]at hd;lia
    have hn':gw es<=m:=by simp only[gP]at hd';lia
    have items:=uU I hn hn' (show A.in1.units + m < bu by show A.units + 1 + m < _;lia) rr rr' av Cr;have h:=RcAt.tuples (A:=A) t t2 hu0 items;rw[dk,dk,<- av.length,<- Cr.length,<- rr.length,<- rr'.length,dR]at h;exact h
   |_=>cases hs
  |lst ds =>
   cases d' with
   |lst es =>
    obtain⟨a,vs,rfl,q,rr⟩:=bJ.mp r;cases e;obtain⟨its,av,t1,_⟩:=I.list q;have t:=t1.isList;obtain⟨b,us,rfl,q',rr'⟩:=bJ.mp r';cases e';obtain⟨its2,Cr,t3,_⟩:=I.list q';have t2:=t3.isList;have hn:gw ds<=m:=by simp only[gP]at hd;lia
    have hn':gw es<=m:=by simp only[gP]at hd';lia
    have items:=uU I hn hn' (show A.in1.units + m < bu by show A.units + 1 + m < _;lia) rr rr' av Cr;by_cases hl:its.toArray.size=its2.toArray.size
    ·have h:=RcAt.lists (A:=A) t t2 hl hu0 items;rw[dk,<- av.length,<- rr.length]at h;have hl':ds.length=es.length:=by rw[rr.length,rr'.length,av.length,Cr.length];simpa using hl
     have e1:=dR ds es;rw[hl',tf]at e1;simp only[beq_self_eq_true,ph]at e1;rw[hl',e1]at h;exact h
    ·have h:=RcAt.lists_lengths (A:=A) t t2 (by simpa using hl) hu0;have hl':ds.length≠es.length:=by rw[rr.length,rr'.length,av.length,Cr.length];simpa using hl
     have e1:=dR ds es;rw[show(ds.length == es.length)=false by simpa using hl',nV]at e1;rw[show oF (.lst ds) (.lst es)=false by rw[oF,<- e1]];exact h
   |_=>cases hs
  |_=>cases d' <;> cases hs
open SeqAt in
theorem QK{d d':D}{u u':aa}{A:ba}(k:Kd X H s d u)(k':Kd X H s d' u')(hu:A.units < bu)(hs:sk d d'=false):RcNeAt A s u u' (!oF d d'):=by
 cases k with
 |n =>
  cases k' with
  |n=>exact RcNeAt.none_none
  |b y=>exact RcNeAt.none_bool y
  |i y r=>exact RcNeAt.none_int y r
  |s y r=>exact RcNeAt.none_str y r
  |t es g=>exact RcNeAt.none_tuple g hu
  |l es g=>exact RcNeAt.none_list g hu
 |b x =>
  cases k' with
  |n=>exact RcNeAt.bool_none x
  |b y=>exact RcNeAt.bool_bool x y
  |i y r=>exact RcNeAt.bool_int x y r
  |s y r=>exact RcNeAt.bool_str x y r
  |t es g=>exact RcNeAt.bool_tuple x g hu
  |l es g=>exact RcNeAt.bool_list x g hu
 |i x t =>
  cases k' with
  |n=>exact RcNeAt.int_none x t
  |b y=>exact RcNeAt.int_bool x t y
  |i y r=>exact RcNeAt.int_int x t y r
  |s y r=>exact RcNeAt.int_str x t y r
  |t es g=>exact RcNeAt.int_tuple x t g hu
  |l es g=>exact RcNeAt.int_list x t g hu
 |s x t =>
  cases k' with
  |n=>exact RcNeAt.str_none x t
  |b y=>exact RcNeAt.str_bool x t y
  |i y r=>exact RcNeAt.str_int x t y r
  |s y r=>exact RcNeAt.str_str x t y r
  |t es g=>exact RcNeAt.str_tuple x t g hu
  |l es g=>exact RcNeAt.str_list x t g hu
 |t ds h =>
  cases k' with
  |n=>exact RcNeAt.tuple_none h hu
  |b y=>exact RcNeAt.tuple_bool y h hu
  |i y r=>exact RcNeAt.tuple_int y r h hu
  |s y r=>exact RcNeAt.tuple_str y r h hu
  |t es g=>cases hs
  |l es g=>exact RcNeAt.tuple_list h g hu
 |l ds h =>
  cases k' with
  |n=>exact RcNeAt.list_none h hu
  |b y=>exact RcNeAt.list_bool y h hu
  |i y r=>exact RcNeAt.list_int y r h hu
  |s y r=>exact RcNeAt.list_str y r h hu
  |t es g=>exact RcNeAt.list_tuple h g hu
  |l es g=>cases hs
open SeqAt in
theorem Ua(I:Inv X pins σ H s){n:Nat}{d d':D}{v v':V}{u u':aa}{A:ba}(hd:gP d<=n)(hd':gP d'<=n)(hu:A.units + n < bu)(r:Rep X.K H d v)(r':Rep X.K H d' v')(e:RelV v u)(e':RelV v' u'):RcNeAt A s u u' (!oF d d'):=by
 have hu0:A.units < bu:=by lia
 cases hs:sk d d' with
 |false=>exact QK (wZ I hd (by lia) r e) (wZ I hd' (by lia) r' e') hu0 hs
 |true =>
  obtain⟨m,rfl⟩:∃m,n=m + 1:=⟨n - 1,by cases d <;> first|(simp only[gP]at hd;lia)|(cases d' <;> cases hs)⟩
  cases d with
  |tup ds =>
   cases d' with
   |tup es =>
    obtain⟨a,vs,rfl,q,rr⟩:=bN.mp r;cases e;obtain⟨its,av,t,_⟩:=I.tuple q;obtain⟨b,us,rfl,q',rr'⟩:=bN.mp r';cases e';obtain⟨its2,Cr,t2,_⟩:=I.tuple q';have hn:gw ds<=m:=by simp only[gP]at hd;lia
    have hn':gw es<=m:=by simp only[gP]at hd';lia
    have items:=uU I hn hn' (show A.in1.units + m < bu by show A.units + 1 + m < _;lia) rr rr' av Cr;have h:=RcNeAt.tuples (A:=A) t t2 hu0 items;rw[dk,dk,<- av.length,<- Cr.length,<- rr.length,<- rr'.length,dR]at h;exact h
   |_=>cases hs
  |lst ds =>
   cases d' with
   |lst es =>
    obtain⟨a,vs,rfl,q,rr⟩:=bJ.mp r;cases e;obtain⟨its,av,t1,_⟩:=I.list q;have t:=t1.isList;obtain⟨b,us,rfl,q',rr'⟩:=bJ.mp r';cases e';obtain⟨its2,Cr,t3,_⟩:=I.list q';have t2:=t3.isList;have hn:gw ds<=m:=by simp only[gP]at hd;lia
    have hn':gw es<=m:=by simp only[gP]at hd';lia
    have items:=uU I hn hn' (show A.in1.units + m < bu by show A.units + 1 + m < _;lia) rr rr' av Cr;by_cases hl:its.toArray.size=its2.toArray.size
    ·have h:=RcNeAt.lists (A:=A) t t2 hl hu0 items;rw[dk,<- av.length,<- rr.length]at h;have hl':ds.length=es.length:=by rw[rr.length,rr'.length,av.length,Cr.length];simpa using hl
     have e1:=dR ds es;rw[hl',tf]at e1;simp only[beq_self_eq_true,ph]at e1;rw[hl',e1]at h;exact h
    ·have h:=RcNeAt.lists_lengths (A:=A) t t2 (by simpa using hl) hu0;have hl':ds.length≠es.length:=by rw[rr.length,rr'.length,av.length,Cr.length];simpa using hl
     have e1:=dR ds es;rw[show(ds.length == es.length)=false by simpa using hl',nV]at e1;rw[show oF (.lst ds) (.lst es)=false by rw[oF,<- e1]];exact h
   |_=>cases hs
  |_=>cases d' <;> cases hs
end
noncomputable def tH(W:Wi)(σ:St)(G H:Hp)(r:Rs Bool)(Q:Bool->Hp->Prop):Prop :=
 match r with
 | .ok b=>∀H' G',Ext G H G' H'->Q b H'
 | .ex c n=>∀H' G',Ext G H G' H'->W c n σ H'
 | .no=>False
noncomputable def tT(K:ai)(B:Bs)(W:Wi)(f:aD->Rs Bool):TT:=fun σ H Q=>∃ρ G,SR K B σ H ρ G/\tH W σ G H (f ρ) Q
noncomputable def ST(X:Cx)(B:Bs)(W:Wi)(e:ag)(f:aD->Rs Bool):Prop:=PT X e (tT X.K B W f)
noncomputable def SW(X:Cx)(B:Bs)(W:Wi)(e:ag)(f:aD->Rs Bool):Prop:=PW X e (tT X.K B W f)
noncomputable def abQ(K:ai)(W:Wi)(σ:St)(G H:Hp)(r:Rs (List D))(Q:List V->Hp->Prop):Prop :=
 match r with
 | .ok ds=>∀vs H' G',Ext G H G' H'->bD K G' ds vs->Q vs H'
 | .ex c n=>∀H' G',Ext G H G' H'->W c n σ H'
 | .no=>False
noncomputable def tAF(K:ai)(B:Bs)(W:Wi)(f:aD->Rs (List D)):TA:=fun σ H Q=>∃ρ G,SR K B σ H ρ G/\abQ K W σ G H (f ρ) Q
noncomputable def SA(X:Cx)(B:Bs)(W:Wi)(es:List ag)(f:aD->Rs (List D)):Prop:=PA X es (tAF X.K B W f)
theorem PW.imp{X:Cx}{e:ag}{t t':TT}(h:PW X e t)(i:∀σ H Q,t' σ H Q->t σ H Q):PW X e t':=fun wh pins s σ H Q I q=>h wh pins s σ H Q I (i σ H Q q)
noncomputable def toB:D->Rs Bool
 | .bl b=>.ok b
 |_=>.no
noncomputable def fT(f:aD->Rs D):aD->Rs Bool:=fun ρ=>(f ρ).bind toB
noncomputable def sW(a b:aD->Rs Bool):aD->Rs Bool:=fun ρ=>(a ρ).bind fun x=>if x=true then b ρ else .ok false
noncomputable def RV(a b:aD->Rs Bool):aD->Rs Bool:=fun ρ=>(a ρ).bind fun x=>if x=true then .ok true else b ρ
noncomputable def tY(a:aD->Rs Bool):aD->Rs Bool:=fun ρ=>(a ρ).bind fun x=>.ok (!x)
noncomputable def aj(a:aD->Rs D)(r:aD->Rs (List D)):aD->Rs (List D):=fun ρ=>(a ρ).bind fun x=>(r ρ).bind fun xs=>.ok (x::xs)
noncomputable def aK:aD->Rs (List D):=fun _=>.ok []
noncomputable def fA(a:aD->Rs (List D))(g:List D->Rs D):aD->Rs D:=fun ρ=>(a ρ).bind g
section
variable{X:Cx}{K:ai}{B:Bs}{W:Wi}{σ:St}{G H:Hp}{ρ:aD}
theorem tH.ext{r:Rs Bool}{Q:Bool->Hp->Prop}{G' H':Hp}(e:Ext G H G' H')(h:tH W σ G H r Q):tH W σ G' H' r Q:=by
 cases r with
 |ok d=>exact fun Od G'' e'=>h Od G'' (e.trans e')
 |ex c n=>exact fun Od G'' e'=>h Od G'' (e.trans e')
 |no=>exact h
theorem Oe{f:aD->Rs D}{Q:Bool->Hp->Prop}(h:tT K B W (fT f) σ H Q):tF K B W f σ H fun x H1=>∃c,x=.bl c/\Q c H1:=by
 obtain⟨ρ,G,s,p⟩:=h;refine⟨ρ,G,s,?_⟩;unfold fT at p;cases e:f ρ with
 |ok d =>
  rw[e]at p;cases d with
  |bl b=>exact fun v H' G' e r=>⟨b,cZ.mp r,p H' G' e⟩
  |_=>exact p.elim
 |ex c n=>rw[e]at p;exact p
 |no=>rw[e]at p;exact p
theorem jR{e:ag}{f:aD->Rs D}(h:SE X B W e f)(he:∀whole,isTrue e X.env whole=(do let v <- whole;nv e.pos;gc [v] (truthy v)):=by intro _;rfl):ST X B W e (fT f) :=
 PT.imp (acL h he) fun _ _ _ h=>Oe h
theorem tZ{a b:ag}{op:kK}{pos:Pos}{r:R2}{g:D->D->Rs D}{fa fb:aD->Rs D}(ho:rP X (fy op) r)(hg:RT X.K r g)(ha:SE X B W a fa)(hb:SE X B W b fb)(hm:gp op b=false) :
  ST X B W (.Compare a [op] [b] pos) (fT (aQ g fa fb)):=by
 refine PT.imp (DQ ho ha hb hm) fun σ H Q h=>?_;exact Ed hg (Oe h)
theorem Ef{a b:ag}{op:kK}{pos:Pos}{r:R2}{g:D->D->Rs D}{fa fb:aD->Rs D}(ho:rP X (fy op) r)(hg:RT X.K r g)(ha:SE X B W a fa)(hb:SE X B W b fb)(hm:gp op b=false) :
  SE X B W (.Compare a [op] [b] pos) (aQ g fa fb):=PE.imp (Zx ho ha hb hm) fun _ _ _ h=>Ed hg h
theorem rW{a:ag}{pos:Pos}{fa:aD->Rs Bool}(ha:ST X B W a fa):SW X B W (.BoolOp .And [a] pos) fa:=Zn ha
theorem Ku{a:ag}{pos:Pos}{fa:aD->Rs Bool}(ha:ST X B W a fa):SW X B W (.BoolOp .Or [a] pos) fa:=acM ha
theorem wA{a b:ag}{rest:List ag}{pos:Pos}{fa fb:aD->Rs Bool}(ha:ST X B W a fa)(hb:SW X B W (.BoolOp .And (b::rest) pos) fb):SW X B W (.BoolOp .And (a::b::rest) pos) (sW fa fb):=by
 refine PW.imp (acN ha hb) fun σ H Q ⟨ρ,G,s,p⟩=>⟨ρ,G,s,?_⟩
 unfold sW at p;cases e:fa ρ with
 |ok x =>
  rw[e]at p;intro H' G' ee;cases x with
  |true=>rw[if_pos rfl];exact⟨ρ,G',s.ext ee,tH.ext ee (show tH W σ G H (fb ρ) Q from p)⟩
  |false=>rw[if_neg (by simp)];exact(show tH W σ G H (.ok false) Q from p) H' G' ee
 |ex c n=>rw[e]at p;exact p
 |no=>rw[e]at p;exact p
theorem Ub{a b:ag}{rest:List ag}{pos:Pos}{fa fb:aD->Rs Bool}(ha:ST X B W a fa)(hb:SW X B W (.BoolOp .Or (b::rest) pos) fb):SW X B W (.BoolOp .Or (a::b::rest) pos) (RV fa fb):=by
 refine PW.imp (afL ha hb) fun σ H Q ⟨ρ,G,s,p⟩=>⟨ρ,G,s,?_⟩
 unfold RV at p;cases e:fa ρ with
 |ok x =>
  rw[e]at p;intro H' G' ee;cases x with
  |true=>rw[if_pos rfl];exact(show tH W σ G H (.ok true) Q from p) H' G' ee
  |false=>rw[if_neg (by simp)];exact⟨ρ,G',s.ext ee,tH.ext ee (show tH W σ G H (fb ρ) Q from p)⟩
 |ex c n=>rw[e]at p;exact p
 |no=>rw[e]at p;exact p
theorem Eh{e:ag}{f:aD->Rs Bool}(h:SW X B W e f):ST X B W e f:=PW.pt h
theorem uc{a:ag}{pos:Pos}{fa:aD->Rs Bool}(ha:ST X B W a fa):ST X B W (.UnaryOp .Not a pos) (tY fa):=by
 refine PT.imp (acO ha) fun σ H Q ⟨ρ,G,s,p⟩=>⟨ρ,G,s,?_⟩
 unfold tY at p;cases e:fa ρ with
 |ok x=>rw[e]at p;exact p
 |ex c n=>rw[e]at p;exact p
 |no=>rw[e]at p;exact p
noncomputable def xg(a b:aD->Rs D):aD->Rs D:=fun ρ=>(a ρ).bind fun x=>(toB x).bind fun c=>if c=true then b ρ else .ok (.bl false)
noncomputable def adB(a b:aD->Rs D):aD->Rs D:=fun ρ=>(a ρ).bind fun x=>(toB x).bind fun c=>if c=true then .ok (.bl true) else b ρ
noncomputable def Uc(a:aD->Rs D):aD->Rs D:=fun ρ=>(a ρ).bind fun x=>(toB x).bind fun c=>.ok (.bl !c)
theorem adC{op}{a:ag}{pos:Pos}{fa:aD->Rs D}(ha:SE X B W a fa):SE X B W (.BoolOp op [a] pos) fa:=acP ha
theorem adD{a b:ag}{rest:List ag}{pos:Pos}{fa fb:aD->Rs D}(ha:SE X B W a fa)(hb:SE X B W (.BoolOp .And (b::rest) pos) fb):SE X B W (.BoolOp .And (a::b::rest) pos) (xg fa fb):=by
 refine PE.imp (acQ ha hb) fun σ H Q h=>?_;obtain⟨ρ,G,s,p⟩:=rT (k:=fun ρ x=>(toB x).bind fun c=>if c=true then fb ρ else .ok (.bl false)) h;refine⟨ρ,G,s,p.mono fun v H1 ⟨ρ1,G1,d,s1,r,q⟩=>?_⟩;cases d with
 |bl c =>
  refine⟨c,cZ.mp r,?_⟩;cases c with
  |true=>rw[if_pos rfl];exact⟨ρ1,G1,s1,q⟩
  |false=>rw[if_neg (by simp)];exact Post.ok s1 q (cZ.mpr rfl)
 |_=>exact q.elim
theorem aH:SA X B W [] aK:=PA.imp lF fun σ H Q ⟨ρ,G,s,p⟩=>p [] H G s.Bl (bA.mpr rfl)
theorem ak{e:ag}{es:List ag}{fe:aD->Rs D}{fs:aD->Rs (List D)}(ha:SE X B W e fe)(hr:SA X B W es fs)(hs:bb (e::es) X.env=(false,bj e X.env)::bb es X.env:=by rfl):SA X B W (e::es) (aj fe fs):=by
 refine PA.imp (gj ha hr hs) fun σ H Q ⟨ρ,G,s,p⟩=>⟨ρ,G,s,?_⟩
 unfold aj at p;cases e1:fe ρ with
 |ok d =>
  rw[e1]at p;intro v H1 G1 x1 r1;refine⟨ρ,G1,s.ext x1,?_⟩;have p':abQ X.K W σ G H ((fs ρ).bind fun xs=>.ok (d::xs)) Q:=p;cases e2:fs ρ with
  |ok ds =>
   rw[e2]at p';intro vs H2 G2 x2 r2;exact p' (v::vs) H2 G2 (x1.trans x2) (aV.mpr ⟨v,vs,rfl,r1.mono x2.gg,r2⟩)
  |ex c n=>rw[e2]at p';exact fun H2 G2 x2=>p' H2 G2 (x1.trans x2)
  |no=>rw[e2]at p';exact p'
 |ex c n=>rw[e1]at p;exact p
 |no=>rw[e1]at p;exact p
noncomputable def tL(K:ai)(r:List V->Hp->VK->Prop)(g:List D->Rs D):Prop :=
 ∀(B:Bs) (W:Wi) (σ:St) (ρ:aD) (G H:Hp) (ds:List D) (vs:List V) (Q:VK),SR K B σ H ρ G->bD K G ds vs->Post K W σ G H (g ds) Q->r vs H Q
theorem Og{t:aD->Rs (List D)}{g:List D->Rs D}{r:List V->Hp->VK->Prop}{Q:VK}(hg:tL K r g)(h:tF K B W (fA t g) σ H Q):tAF K B W t σ H fun vs H1=>r vs H1 Q:=by
 obtain⟨ρ,G,s,p⟩:=h;refine⟨ρ,G,s,?_⟩;unfold fA at p;cases e:t ρ with
 |ok ds=>rw[e]at p;exact fun vs H1 G1 x r=>hg B W σ ρ G1 H1 ds vs Q (s.ext x) r (Post.ext x p)
 |ex c n=>rw[e]at p;exact p
 |no=>rw[e]at p;exact p
noncomputable def cU:List D->Rs D:=fun ds=>if ds.length<=1000 then .ok (.tup ds) else .no
noncomputable def uV:List D->Rs D:=fun ds=>if ds.length<=1000 then .ok (.lst ds) else .no
theorem Ei{n:Nat}(h:n<=1000):n<=sizeLine:=gm (QJ h)
theorem bU{es:List ag}{x1}{pos:Pos}{f:aD->Rs (List D)}(h:SA X B W es f):SE X B W (.Tuple es x1 pos) (fA f cU):=by
 refine PE.imp (adl h) fun σ H Q q=>Og (r:=fun xs H1 Q=>xs.length<=sizeLine/\∀p,H1 p=none->Q (.ref p) (upd H1 p (.tup xs))) ?_ q;intro B W σ ρ G H ds vs Q s r p;unfold cU at p;by_cases hl:ds.length<=1000
 ·rw[if_pos hl]at p;refine⟨by rw[<- r.length];exact Ei hl,fun a ha=>?_⟩;have x:=xZ (xs:=vs) s.en.gh s.en.tp ha;exact p _ _ _ x (bN.mpr ⟨a,vs,rfl,.of aZ,r.mono x.gg⟩)
 ·rw[if_neg hl]at p;exact p.elim
theorem ud{es:List ag}{pos:Pos}{f:aD->Rs (List D)}(h:SA X B W es f):SE X B W (.List es pos) (fA f uV):=by
 refine PE.imp (Ti h) fun σ H Q q=>Og (r:=fun xs H1 Q=>xs.length<=sizeLine/\∀p,H1 p=none->Q (.ref p) (upd H1 p (.lst xs))) ?_ q;intro B W σ ρ G H ds vs Q s r p;unfold uV at p;by_cases hl:ds.length<=1000
 ·rw[if_pos hl]at p;refine⟨by rw[<- r.length];exact Ei hl,fun a ha=>?_⟩;have x:=pB (xs:=vs) s.en.gh s.en.tp ha;exact p _ _ _ x (bJ.mpr ⟨a,vs,rfl,.of aZ,r.mono x.gg⟩)
 ·rw[if_neg hl]at p;exact p.elim
noncomputable def cN:D->D->Rs D
 | .tup ds,.int i=>match xO ds i with|some d=>.ok d|none=>.no
 | .lst ds,.int i=>match xO ds i with|some d=>.ok d|none=>.no
 |_,_=>.no
theorem Hw{ds:List D}{vs:List V}{i:Int}{d:D}(r:bD K G ds vs)(h:xO ds i=some d):∃v,xO vs i=some v/\Rep K G d v:=by
 unfold xO at h ⊢;rw[<- r.length];cases e:NK ds.length i with
 |none=>rw[e]at h;cases h
 |some j=>rw[e]at h;exact r.get (i:=j) h
theorem adE:RT K (rIx K) cN:=by
 intro B W σ ρ G H x y v u Q s rx ry p;cases y <;> first|(cases x <;> exact p.elim)|skip
 rename_i i;cases x with
 |tup ds =>
  simp only[cN]at p;obtain⟨a,vs,rfl,q,rr⟩:=bN.mp rx;cases e:xO ds i with
  |none=>rw[e]at p;exact p.elim
  |some d =>
   rw[e]at p;obtain⟨w,e2,rw'⟩:=Hw rr e;exact .inr (.inl ⟨a,vs,i,w,rfl,aX.mp ry,Same.iy s.en.gh q,e2,Post.ok s p rw'⟩)
 |lst ds =>
  simp only[cN]at p;obtain⟨a,vs,rfl,q,rr⟩:=bJ.mp rx;cases e:xO ds i with
  |none=>rw[e]at p;exact p.elim
  |some d =>
   rw[e]at p;obtain⟨w,e2,rw'⟩:=Hw rr e;exact .inl ⟨a,vs,i,w,rfl,aX.mp ry,s.en.gh.seq q,e2,Post.ok s p rw'⟩
 |_=>exact p.elim
theorem bK{a b:ag}{pos:Pos}{fa fb:aD->Rs D}(ha:SE X B W a fa)(hb:SE X B W b fb)(hs:NP b:=by intro _ _;rfl):SE X B W (.Subscript a b pos) (aQ cN fa fb) :=
 PE.imp (agf adq ha hb hs) fun _ _ _ h=>Ed adE h
instance (i j:Int):Decidable (Ko i j):=by unfold Ko;exact inferInstance
instance (i j:Int):Decidable (Td i j):=by unfold Td;exact inferInstance
noncomputable def CDB(i j:Int):Prop:=0 < j/\j < 2 ^ 200
instance (i j:Int):Decidable (CDB i j):=by unfold CDB;exact inferInstance
theorem CDB.py{i j:Int}(h:CDB i j):cE.divisionGoesByPylong i j=false:=by
 refine PyProof.noPylong_of_log2 ?_;have h1:j.natAbs < 2 ^ 200:=by have:=h.1;have:=h.2;lia
 have h2:j.natAbs.log2 < 200:=(Nat.log2_lt (by have:=h.1;lia)).mpr h1;lia
theorem Ud:rP X (fx .FloorDiv) (rI CDB fun i j=>.int (i / j)):=opI fun i j _ _ _ _ _ hc q=>by have h1:=hc.1;rw[<- sD i (by lia)]at q;exact PyProof.Rows.floordiv_int (by lia) q (.inl hc.py)
noncomputable def jQ:=gI0 fun i j=>D.int (i - j)
noncomputable def dZ:=gI Ko fun i j=>D.int (i * j)
noncomputable def uf:=gI CDB fun i j=>D.int (i / j)
instance (i j:Int):Decidable ((fun(_:Int) (j:Int)=>0 < j) i j):=inferInstanceAs (Decidable (0 < j))
noncomputable def iD:=gI (fun _ j=>0 < j) fun i j=>D.int (i % j)
noncomputable def qu:=gI Td fun i j=>D.int (i ^ j.toNat)
variable{a b:ag}{pos:Pos}{fa fb:aD->Rs D}
theorem iz(ha:SE X B W a fa)(hb:SE X B W b fb):SE X B W (.BinOp a .Sub b pos) (aQ jQ fa fb):=uQ ada (wj fun _ _ _=>aX.mpr rfl) ha hb
theorem jc(ha:SE X B W a fa)(hb:SE X B W b fb):SE X B W (.BinOp a .Mult b pos) (aQ dZ fa fb):=uQ adb (Hr fun _ _ _=>aX.mpr rfl) ha hb
theorem wB(ha:SE X B W a fa)(hb:SE X B W b fb):SE X B W (.BinOp a .FloorDiv b pos) (aQ uf fa fb):=uQ Ud (Hr fun _ _ _=>aX.mpr rfl) ha hb
theorem jT(ha:SE X B W a fa)(hb:SE X B W b fb):SE X B W (.BinOp a .Mod b pos) (aQ iD fa fb):=uQ ade (Hr fun _ _ _=>aX.mpr rfl) ha hb
theorem mz(ha:SE X B W a fa)(hb:SE X B W b fb):SE X B W (.BinOp a .Pow b pos) (aQ qu fa fb):=uQ adf (Hr fun _ _ _=>aX.mpr rfl) ha hb
noncomputable def ZW:D->Rs D
 | .int i=>.ok (.int (-i))
 |_=>.no
theorem adF(ha:SE X B W a fa):SE X B W (.UnaryOp .USub a pos) (fun ρ=>(fa ρ).bind ZW):=by
 refine PE.imp (afY adi ha) fun σ H Q h=>?_;obtain⟨ρ,G,s,p⟩:=rT (k:=fun _=>ZW) h;refine⟨ρ,G,s,p.mono fun v H1 ⟨ρ1,G1,d,s1,r,q⟩=>?_⟩;cases d with
 |int i=>exact⟨i,aX.mp r,Post.ok s1 q (aX.mpr rfl)⟩
 |_=>exact q.elim
noncomputable def bH:D->D->Rs D
 | .int i,.int j=>.ok (.int (i + j))
 | .lst a,.lst b=>if a.length + b.length<=1000000 then .ok (.lst (a++b)) else .no
 |_,_=>.no
theorem sz6{n:Nat}(h:n<=1000000):n<=sizeLine:=cx h (by rw[d8];decide)
end
section
variable{X:Cx}{K:ai}{B:Bs}{W:Wi}{σ:St}{G H:Hp}{ρ:aD}{a b:ag}{pos:Pos}{fa fb:aD->Rs D}
noncomputable def Ue(K:ai):R2:=fun x y H Q=>∃l b xs zs,x=.ref l/\y=.ref b/\qp K H l xs/\qp K H b zs/\xs.length + zs.length<=sizeLine/\∀p,H p=none->Q (.ref p) (upd H p (.lst (xs++zs)))
open PyProof.Rows in
theorem ZX:rP X (fx .Add) (Ue X.K):=by
 intro pins s σ H x y v u Q I rx ry h;obtain⟨l,b,xs,zs,rfl,rfl,hH,hB,hz,q⟩:=h;cases rx;cases ry;obtain⟨vs,r,pl,_⟩:=I.list hH;obtain⟨ws,r2,pl2,_⟩:=I.list hB;obtain⟨⟨cls,dd,data,sl⟩,ho,hc,n,hd⟩:=pl.isList;obtain⟨⟨cls2,dd2,data2,sl2⟩,ho2,hc2,n2,hd2⟩:=pl2.isList;simp only at hc hd hc2 hd2;subst hc hd hc2 hd2;have e:vs.toArray++ws.toArray=(vs++ws).toArray:=by simp
 have l1:=r.length;have l2:=r2.length;refine pd ⟨_,ho,rfl⟩ ⟨_,ho2,rfl⟩ noFill_list_add seq_list_add PySem.F.slot_list_add PySem.F.entry_list_add (PySem.F.args_list_add_2 _ _) (list_addW l b vs.toArray ws.toArray n n2 dd dd2 sl sl2 (by simp only[dk];lia)) ⟨ho,ho2,?_⟩;rw[e];exact⟨.ref _,_,I.agl (t':=s.toks) (r.append r2) (by rw[dn];lia),rfl,q _ I.fresh⟩
theorem aac:rP X (fx .Add) (fun x y H Q=>Tc (fun i j=>V.int (i + j)) x y H Q∨Ue X.K x y H Q):=acZ.or ZX
theorem Ug:RT K (fun x y H Q=>Tc (fun i j=>V.int (i + j)) x y H Q∨Ue K x y H Q) bH:=by
 intro B W σ ρ G H x y v u Q s rx ry p;cases x with
 |int i =>
  cases y with
  |int j=>exact .inl ⟨i,j,aX.mp rx,aX.mp ry,Post.ok s p (aX.mpr rfl)⟩
  |_=>exact p.elim
 |lst ds =>
  cases y with
  |lst es =>
   simp only[bH]at p;by_cases hl:ds.length + es.length<=1000000
   ·rw[if_pos hl]at p;obtain⟨a,vs,rfl,q,r⟩:=bJ.mp rx;obtain⟨b,us,rfl,q',r'⟩:=bJ.mp ry;refine .inr ⟨a,b,vs,us,rfl,rfl,s.en.gh.seq q,s.en.gh.seq q',by rw[<- r.length,<- r'.length];exact sz6 hl,fun c hc=>?_⟩;have x:=pB (xs:=vs++us) s.en.gh s.en.tp hc;exact p _ _ _ x (bJ.mpr ⟨c,vs++us,rfl,.of aZ,(r.append r').mono x.gg⟩)
   ·rw[if_neg hl]at p;exact p.elim
  |_=>exact p.elim
 |_=>cases y <;> exact p.elim
theorem bV(ha:SE X B W a fa)(hb:SE X B W b fb):SE X B W (.BinOp a .Add b pos) (aQ bH fa fb):=uQ aac Ug ha hb
noncomputable def toI:D->Rs Int
 | .int i=>.ok i
 |_=>.no
noncomputable def Bm(xs:List D)(lo hi:Option Int):List D:=(xs.drop (HT.GD xs.length 0 lo)).take (HT.GD xs.length xs.length hi - HT.GD xs.length 0 lo)
theorem Uh{ds:List D}{vs:List V}{lo hi:Option Int}(r:bD K G ds vs):bD K G (Bm ds lo hi) (Ks vs lo hi):=by unfold Bm Ks;rw[r.length];exact(r.drop _).take _
noncomputable def gSl(lo hi:Option Int):D->Rs D
 | .lst ds=>.ok (.lst (Bm ds lo hi))
 |_=>.no
noncomputable def agp(W:Wi)(σ:St)(G H:Hp)(r:Rs (Option Int))(Q:Option Int->Hp->Prop):Prop :=
 match r with
 | .ok b=>∀H' G',Ext G H G' H'->Q b H'
 | .ex c n=>∀H' G',Ext G H G' H'->W c n σ H'
 | .no=>False
noncomputable def tO(K:ai)(B:Bs)(W:Wi)(f:aD->Rs (Option Int)):TO:=fun σ H Q=>∃ρ G,SR K B σ H ρ G/\agp W σ G H (f ρ) Q
noncomputable def SO(X:Cx)(B:Bs)(W:Wi)(e:Option ag)(f:aD->Rs (Option Int)):Prop:=PO X e (tO X.K B W f)
noncomputable def adG:aD->Rs (Option Int):=fun _=>.ok none
noncomputable def fP(f:aD->Rs D):aD->Rs (Option Int):=fun ρ=>(f ρ).bind fun d=>(toI d).bind fun i=>.ok (some i)
theorem PO.imp{e:Option ag}{t t':TO}(h:PO X e t)(i:∀σ H Q,t' σ H Q->t σ H Q):PO X e t':=fun pins s σ H Q I q=>h pins s σ H Q I (i σ H Q q)
theorem Oh{e:ag}{f:aD->Rs D}(h:SE X B W e f):SO X B W (some e) (fP f):=by
 refine PO.imp (Zz h) fun σ H Q ⟨ρ,G,s,p⟩=>⟨ρ,G,s,?_⟩
 unfold fP at p;cases e1:f ρ with
 |ok d =>
  rw[e1]at p;cases d with
  |int i=>exact fun w H' G' e r'=>⟨i,aX.mp r',p H' G' e⟩
  |_=>exact p.elim
 |ex c n=>rw[e1]at p;exact p
 |no=>rw[e1]at p;exact p
noncomputable def fSl(fe:aD->Rs D)(fl fh:aD->Rs (Option Int)):aD->Rs D:=fun ρ=>(fe ρ).bind fun x=>(fl ρ).bind fun l=>(fh ρ).bind fun h=>gSl l h x
theorem adH{x:D}{v:V}{l h:Option Int}{Q:VK}(s:SR K B σ H ρ G)(r:Rep K G x v)(p:Post K W σ G H (gSl l h x) Q):agj K v l h H Q:=by
 cases x with
 |lst ds =>
  obtain⟨a,vs,rfl,q,rr⟩:=bJ.mp r;refine⟨a,vs,rfl,s.en.gh.seq q,fun c hc=>?_⟩;have x:=pB (xs:=Ks vs l h) s.en.gh s.en.tp hc;exact p _ _ _ x (bJ.mpr ⟨c,_,rfl,.of aZ,(Uh rr).mono x.gg⟩)
 |_=>exact p.elim
theorem Ui{e:ag}{lo hi:Option ag}{p2:Pos}{fe:aD->Rs D}{fl fh:aD->Rs (Option Int)}(he:SE X B W e fe)(hl:SO X B W lo fl)(hh:SO X B W hi fh) :
  SE X B W (.Subscript e (.Slice lo hi none p2) pos) (fSl fe fl fh):=by
 refine PE.imp (Tp ZJ he hl hh) fun σ H Q h=>?_;obtain⟨ρ,G,s,p⟩:=rT (k:=fun ρ x=>(fl ρ).bind fun l=>(fh ρ).bind fun h=>gSl l h x) h;refine⟨ρ,G,s,p.mono fun v H1 ⟨ρ1,G1,d,s1,r,q⟩=>⟨ρ1,G1,s1,?_⟩⟩;cases e1:fl ρ1 with
 |ok l =>
  rw[e1]at q;intro H2 G2 x2;have q':Post X.K W σ G1 H1 ((fh ρ1).bind fun h=>gSl l h d) Q:=q;refine⟨ρ1,G2,s1.ext x2,?_⟩;cases e2:fh ρ1 with
  |ok h =>
   rw[e2]at q';exact fun H3 G3 x3=>adH ((s1.ext x2).ext x3) ((r.mono x2.gg).mono x3.gg) (Post.ext (x2.trans x3) q')
  |ex c n=>rw[e2]at q';exact fun H3 G3 x3=>q' H3 G3 (x2.trans x3)
  |no=>rw[e2]at q';exact q'
 |ex c n=>rw[e1]at q;exact q
 |no=>rw[e1]at q;exact q
variable{x:Str}{p:Pos}{e:ag}{es:List ag}{id T:String}{r:List V->Hp->VK->Prop}{g:List D->Rs D}{fs:aD->Rs (List D)}
theorem qH(hc:gZ X (.builtin id) r) (hd:tL X.K r g) (hg:Gl X x) (hm:X.mg x=none) (hv:il x=some (.builtin id)) (ha:SA X B W (e::es) fs) (hn:x≠"__name__":=by decide) (hdb:qx x:=by decide)
  (he:bb (e::es) X.env=(false,bj e X.env)::bb es X.env:=by rfl) (hpl:(cS pos (bb es X.env)).any (·.1)=false:=by rfl):SE X B W (.Call (.Name x p) (e::es) [] pos) (fA fs g) :=
 PE.imp (qF hc hg hm hv ha hn hdb he hpl) fun _ _ _ h=>Og hd h
theorem Cu(hc:gZ X (.type T) r) (hd:tL X.K r g) (hg:Gl X x) (hm:X.mg x=none) (hv:il x=some (.type T)) (ha:SA X B W (e::es) fs) (hn:x≠"__name__":=by decide) (hdb:qx x:=by decide)
  (he:bb (e::es) X.env=(false,bj e X.env)::bb es X.env:=by rfl) (hpl:(cS pos (bb es X.env)).any (·.1)=false:=by rfl):SE X B W (.Call (.Name x p) (e::es) [] pos) (fA fs g) :=
 PE.imp (Cq hc hg hm hv ha hn hdb he hpl) fun _ _ _ h=>Og hd h
noncomputable def mC:List D->Rs D
 | [.lst ds]=>.ok (.int ds.length)
 | [.tup ds]=>.ok (.int ds.length)
 |_=>.no
theorem adI:tL K (fun xs H Q=>∃p ys,xs=[.ref p]/\(qp K H p ys∨mX K H p ys)/\Q (.int ys.length) H) mC:=by
 intro B W σ ρ G H ds vs Q s r p
 match ds,p with
 | [.lst ds],p =>
  obtain⟨v,vs',rfl,r1,r2⟩:=aV.mp r;obtain⟨a,us,rfl,q,rr⟩:=bJ.mp r1;rw[bA.mp r2];refine⟨a,us,rfl,.inl (s.en.gh.seq q),Post.ok s p ?_⟩;rw[<- rr.length];exact aX.mpr rfl
 | [.tup ds],p =>
  obtain⟨v,vs',rfl,r1,r2⟩:=aV.mp r;obtain⟨a,us,rfl,q,rr⟩:=bN.mp r1;rw[bA.mp r2];refine⟨a,us,rfl,.inr (Same.iy s.en.gh q),Post.ok s p ?_⟩;rw[<- rr.length];exact aX.mpr rfl
 | [],p=>exact p.elim
 | [.non],p=>exact p.elim
 | [.bl _],p=>exact p.elim
 | [.int _],p=>exact p.elim
 | [.str _],p=>exact p.elim
 | [.GF _ _],p=>exact p.elim
 | [.GJ _ _],p=>exact p.elim
 | [.fn _],p=>exact p.elim
 | [.obj _ _ _],p=>exact p.elim
 |_::_::_,p=>exact(by simp only[mC]at p;exact p.elim)
theorem pC(hm:X.mg "len"=none) (ha:SE X B W e fa) (hg:Gl X "len":=by rfl) (he:bb [e] X.env=[(false,bj e X.env)]:=by rfl):SE X B W (.Call (.Name "len" p) [e] [] pos) (fA (aj fa aK) mC) :=
 qH Ea adI hg hm PySem.boot_len (ak ha aH he)  (by decide) (by decide) he rfl
noncomputable def nG:List D->Rs D
 | [.lst ds]=>.ok (.tup ds)
 | [.tup ds]=>.ok (.tup ds)
 |_=>.no
theorem Uj:tL K (fun xs H Q=>∃p ys,xs=[.ref p]/\((qp K H p ys/\∀l,H l=none->Q (.ref l) (upd H l (.tup ys)))∨(mX K H p ys/\Q (.ref p) H))) nG:=by
 intro B W σ ρ G H ds vs Q s r p
 match ds,p with
 | [.lst ds],p =>
  obtain⟨v,vs',rfl,r1,r2⟩:=aV.mp r;obtain⟨a,us,rfl,q,rr⟩:=bJ.mp r1;rw[bA.mp r2];refine⟨a,us,rfl,.inl ⟨s.en.gh.seq q,fun c hc=>?_⟩⟩;have x:=xZ (xs:=us) s.en.gh s.en.tp hc;exact p _ _ _ x (bN.mpr ⟨c,us,rfl,.of aZ,rr.mono x.gg⟩)
 | [.tup ds],p =>
  obtain⟨v,vs',rfl,r1,r2⟩:=aV.mp r;obtain⟨a,us,rfl,q,rr⟩:=bN.mp r1;rw[bA.mp r2];exact⟨a,us,rfl,.inr ⟨Same.iy s.en.gh q,Post.ok s p r1⟩⟩
 | [],p=>exact p.elim
 | [.non],p=>exact p.elim
 | [.bl _],p=>exact p.elim
 | [.int _],p=>exact p.elim
 | [.str _],p=>exact p.elim
 | [.GF _ _],p=>exact p.elim
 | [.GJ _ _],p=>exact p.elim
 | [.fn _],p=>exact p.elim
 | [.obj _ _ _],p=>exact p.elim
 |_::_::_,p=>exact(by simp only[nG]at p;exact p.elim)
open PyProof.Rows in
theorem Ej:gZ X (.builtin "divmod") (fun xs H Q=>∃i j,xs=[.int i,.int j]/\CDB i j/\∀p,H p=none->Q (.ref p) (upd H p (.tup [.int (i / j),.int (i % j)]))):=by intro pins s σ H xs us Q I r h;obtain⟨i,j,rfl,hc,q⟩:=h;have h1:=hc.1;obtain⟨u,w',rfl,⟨t,rfl⟩,⟨t',rfl⟩⟩:=Te r;refine divmod_int (by lia) ?_ (.inl hc.py);rw[sD i (by lia),Int.fmod_eq_emod_of_nonneg i (by lia)];have hn:H s.heap.objs.size=none:=I.hok.fresh (bE _);refine⟨.ref s.heap.objs.size,_,?_,rfl,q _ hn⟩;refine I.laid (fun b o e=>cy _ e) (bE _) ⟨by simp only[ck,d4];rw[d8];decide,[.int (i / j) s.toks,.int (i % j) (s.toks + 1)],.cons ⟨_,rfl⟩ (.cons ⟨_,rfl⟩ .nil),?_⟩;exact⟨_,dA s.heap rfl,rfl,0,rfl⟩
noncomputable def Cv:List D->Rs D
 | [.int i,.int j]=>if CDB i j then .ok (.tup [.int (i / j),.int (i % j)]) else .no
 |_=>.no
theorem agq:tL K (fun xs H Q=>∃i j,xs=[.int i,.int j]/\CDB i j/\∀p,H p=none->Q (.ref p) (upd H p (.tup [.int (i / j),.int (i % j)]))) Cv:=by
 intro B W σ ρ G H ds vs Q s r p;unfold Cv at p;split at p
 ·rename_i i j;obtain⟨v,vs',rfl,r1,r2⟩:=aV.mp r;obtain⟨v2,vs'',rfl,r3,r4⟩:=aV.mp r2;rw[aX.mp r1,aX.mp r3,bA.mp r4];by_cases hc:CDB i j
  ·rw[if_pos hc]at p;refine⟨i,j,rfl,hc,fun c hc=>?_⟩;have x:=xZ (xs:=[.int (i / j),.int (i % j)]) s.en.gh s.en.tp hc;exact p _ _ _ x (bN.mpr ⟨c,_,rfl,.of aZ,aV.mpr ⟨_,_,rfl,aX.mpr rfl,.one (aX.mpr rfl)⟩⟩)
  ·rw[if_neg hc]at p;exact p.elim
 ·exact p.elim
end
inductive Ou where
 |nx (ρ:aD)|rt (d:D)|bk (ρ:aD)|ct (ρ:aD)|ex (c:Str) (n:Int) (ρ:aD)|no|rx (d:D) (ρ:aD)|rl (ds:List D)
noncomputable def cL(K:ai)(B:Bs)(W:Wi)(G:Hp)(o:Ou)(De:Ends):Prop :=
 match o with
 | .nx ρ'=>∀σ' H' G',SR K B σ' H' ρ' G'->Same G G'->De.nx σ' H'
 | .bk ρ'=>∀σ' H' G',SR K B σ' H' ρ' G'->Same G G'->De.bk σ' H'
 | .ct ρ'=>∀σ' H' G',SR K B σ' H' ρ' G'->Same G G'->De.ct σ' H'
 | .rt d=>∀v H' G',Ext B.1 B.2 G' H'->Same G G'->Rep K G' d v->De.rt v H'
 | .ex c n ρ'=>∀σ' H' G',SR K B σ' H' ρ' G'->Same G G'->W c n σ' H'
 | .no=>False
 | .rx d ρ'=>∀v σ' H' G',SR K B σ' H' ρ' G'->Same G G'->Rep K G' d v->De.rt v H'
 | .rl ds=>∀a ws H' G',Ext B.1 B.2 G' H'->Same G G'->G' a=none->B.2 a=none->H' a=some (.lst ws)->bD K G' ds ws->De.rt (.ref a) H'
noncomputable def tS(K:ai)(B:Bs)(W:Wi)(g:aD->Ou):TS:=fun De σ H=>∃ρ G,SR K B σ H ρ G/\cL K B W G (g ρ) De
noncomputable def SS(X:Cx)(B:Bs)(W:Wi)(st:bg)(g:aD->Ou):Prop:=PS X st (tS X.K B W g)
noncomputable def xq(X:Cx)(B:Bs)(W:Wi)(st:List bg)(g:aD->Ou):Prop:=DG X st (tS X.K B W g)
noncomputable def Uk(o:Ou)(k:aD->Ou):Ou:=match o with
 | .nx ρ=>k ρ
 |o=>o
noncomputable def oR{α:Type}(r:Rs α)(ρ:aD)(k:α->Ou):Ou:=match r with
 | .ok a=>k a
 | .ex c n=>.ex c n ρ
 | .no=>.no
section
variable{X:Cx}{K:ai}{B:Bs}{W:Wi}{σ:St}{G G' H:Hp}{ρ:aD}{De De':Ends}
theorem cL.same{o:Ou}(h:cL K B W G o De)(e:Same G G'):cL K B W G' o De:=by
 cases o with
 |nx ρ'=>exact fun σ' H' G'' s q=>h σ' H' G'' s (e.trans q)
 |bk ρ'=>exact fun σ' H' G'' s q=>h σ' H' G'' s (e.trans q)
 |ct ρ'=>exact fun σ' H' G'' s q=>h σ' H' G'' s (e.trans q)
 |rt d=>exact fun v H' G'' x q=>h v H' G'' x (e.trans q)
 |ex c n ρ'=>exact fun σ' H' G'' s q=>h σ' H' G'' s (e.trans q)
 |no=>exact h
 |rx d ρ'=>exact fun v σ' H' G'' s q=>h v σ' H' G'' s (e.trans q)
 |rl ds=>exact fun a ws H' G'' s q=>h a ws H' G'' s (e.trans q)
theorem gQ{r:Rs D}{k:D->Ou}{Q:VK}(s:SR K B σ H ρ G)(p:cL K B W G (oR r ρ k) De)(h:∀d v H' G',r=.ok d->Ext G H G' H'->Rep K G' d v->cL K B W G' (k d) De->Q v H'):Post K W σ G H r Q:=by
 cases r with
 |ok d=>exact fun v H' G' e r=>h d v H' G' rfl e r (cL.same p e.gg)
 |ex c n=>exact fun H' G' e=>p σ H' G' (s.ext e) e.gg
 |no=>exact p
theorem adJ:xq X B W [] .nx:=DG.imp Zq fun De σ H ⟨ρ,G,s,p⟩=>p σ H G s (.refl _)
theorem aad{st:bg}{rest:List bg}{g k:aD->Ou}(h1:SS X B W st g)(h2:xq X B W rest k):xq X B W (st::rest) (fun ρ=>Uk (g ρ) k):=by
 refine DG.imp (Hg h1 h2) fun De σ H ⟨ρ,G,s,p⟩=>⟨ρ,G,s,?_⟩
 dsimp only at p;cases e:g ρ with
 |nx ρ'=>rw[e]at p;exact fun σ' H' G' s' q=>⟨ρ',G',s',cL.same (show cL X.K B W G (k ρ') De from p) q⟩
 |bk ρ'=>rw[e]at p;exact p
 |ct ρ'=>rw[e]at p;exact p
 |rt d=>rw[e]at p;exact p
 |ex c n ρ'=>rw[e]at p;exact p
 |no=>rw[e]at p;exact p
 |rx d ρ'=>rw[e]at p;exact p
 |rl ds=>rw[e]at p;exact p
theorem adK{st:bg}{g:aD->Ou}(h1:SS X B W st g):xq X B W [st] g:=Nv h1
theorem adL{e:ag}{pos}{f:aD->Rs D}(h:SE X B W e f):SS X B W (.Return (some e) pos) (fun ρ=>oR (f ρ) ρ .rt) :=
 PS.imp (DK h) fun De σ H ⟨ρ,G,s,p⟩=>⟨ρ,G,s,gQ s p fun d v H' G' _ e r q=>q v H' G' (s.en.trans e) (.refl _) r⟩
theorem aae{e:ag}{pos:Pos}{f:aD->Rs D}(h:SE X B W e f)(hs:dS e none pos.line X.env=pure false:=by rfl):SS X B W (.Expr e pos) (fun ρ=>oR (f ρ) ρ fun _=>.nx ρ) :=
 PS.imp (rO h hs) fun De σ H ⟨ρ,G,s,p⟩=>⟨ρ,G,s,gQ s p fun d v H' G' _ e r q=>q σ H' G' (s.ext e) (.refl _)⟩
theorem agr{c:ag}{a b:List bg}{pos:Pos}{fc:aD->Rs Bool}{ga gb:aD->Ou}(hc:ST X B W c fc)(ha:xq X B W a ga)(hb:xq X B W b gb):SS X B W (.If c a b pos) (fun ρ=>oR (fc ρ) ρ fun x=>if x=true then ga ρ else gb ρ):=by
 refine PS.imp (afP hc ha hb) fun De σ H ⟨ρ,G,s,p⟩=>⟨ρ,G,s,?_⟩
 dsimp only at p;cases e:fc ρ with
 |ok x =>
  rw[e]at p;intro H' G' ee;have p':cL X.K B W G (if x=true then ga ρ else gb ρ) De:=p;cases x with
  |true=>rw[if_pos rfl]at p' ⊢;exact⟨ρ,G',s.ext ee,p'.same ee.gg⟩
  |false=>rw[if_neg (by simp)]at p' ⊢;exact⟨ρ,G',s.ext ee,p'.same ee.gg⟩
 |ex c n=>rw[e]at p;exact fun H' G' ee=>p σ H' G' (s.ext ee) ee.gg
 |no=>rw[e]at p;exact p
noncomputable abbrev Tg:=D->aD->Option aD
noncomputable def tG(K:ai)(B:Bs)(h:Tg):TG:=fun v σ H Q=>∃ρ G d,SR K B σ H ρ G/\Rep K G d v/\∃ρ',h d ρ=some ρ'/\∀σ',SR K B σ' H ρ' G->Q σ' H
noncomputable def tGs(K:ai)(B:Bs)(h:List D->aD->Option aD):Zr:=fun vs σ H Q=>∃ρ G ds,SR K B σ H ρ G/\bD K G ds vs/\∃ρ',h ds ρ=some ρ'/\∀σ',SR K B σ' H ρ' G->Q σ' H
noncomputable def SG(X:Cx)(B:Bs)(tg:ag)(h:Tg):Prop:=PG X tg (tG X.K B h)
noncomputable def SGs(X:Cx)(B:Bs)(tg:List ag)(h:List D->aD->Option aD):Prop:=Zd X tg (tGs X.K B h)
theorem PG.imp{e:ag}{t t':TG}(h:PG X e t)(i:∀v σ H Q,t' v σ H Q->t v σ H Q):PG X e t':=fun pins s σ H v u Q I r q=>h pins s σ H v u Q I r (i v σ H Q q)
theorem Zd.imp{e:List ag}{t t':Zr}(h:Zd X e t)(i:∀v σ H Q,t' v σ H Q->t v σ H Q):Zd X e t':=fun pins s σ H v u Q I r q=>h pins s σ H v u Q I r (i v σ H Q q)
noncomputable def aM(i:Nat):Tg:=fun d ρ=>some (ρ.set i (.fz d))
noncomputable def mY:List D->aD->Option aD:=fun ds ρ=>match ds with|[]=>some ρ|_=>none
noncomputable def cF(h:Tg)(k:List D->aD->Option aD):List D->aD->Option aD:=fun ds ρ=>match ds with|d::ds=>(h d ρ).bind (k ds)|[]=>none
noncomputable def mD(n:Nat)(k:List D->aD->Option aD):Tg:=fun d ρ=>match d with|.tup ds=>if ds.length=n then k ds ρ else none|_=>none
theorem aaf{i:Nat}{x:Str}{pos:Pos}(hN:X.N.Nodup)(hi:X.N[i]?=some x)(hx:Kg X.env.scope x)(hf:X.fn x=true∨X.env.scope.names.lookup x=some .local:=by first|exact .inl rfl|exact .inr rfl|assumption):SG X B (.Name x pos) (aM i) :=
 PG.imp (Zu hN hi hx hf) fun v σ H Q ⟨ρ,G,d,s,r,ρ',e,q⟩=>by cases e;exact q _ (s.set r)
theorem dH:SGs X B [] mY:=Zd.imp Zv fun v σ H Q ⟨ρ,G,ds,s,r,ρ',e,q⟩=>by
 cases ds with
 |nil=>cases e;exact⟨bA.mp r,q _ s⟩
 |cons d ds=>cases e
theorem bB{e:ag}{es:List ag}{h:Tg}{k:List D->aD->Option aD}(h1:SG X B e h)(h2:SGs X B es k)(hs:(fF (e::es) X.env).map (·.2)=assign e X.env::(fF es X.env).map (·.2):=by rfl):SGs X B (e::es) (cF h k) :=
 Zd.imp (Sv h1 h2 hs) fun v σ H Q ⟨ρ,G,ds,s,r,ρ',e,q⟩=>by
  cases ds with
  |nil=>cases e
  |cons d ds =>
   obtain⟨w,ws,rfl,r1,r2⟩:=aV.mp r;unfold cF at e;dsimp only at e;cases e1:h d ρ with
   |none=>rw[e1]at e;cases e
   |some ρ1 =>
    rw[e1]at e;exact⟨w,ws,rfl,ρ,G,d,s,r1,ρ1,e1,fun σ1 s1=>⟨ρ1,G,ds,s1,r2,ρ',e,q⟩⟩
theorem gA{es:List ag}{k:Nat}{pos:Pos}{n:Nat}{h:List D->aD->Option aD}(hc:X.calm=true)(hh:SGs X B es h)
  (hn:(fF es X.env).length=n:=by rfl) (hst:(fF es X.env).findIdx? (·.1)=none:=by rfl):SG X B (.Tuple es k pos) (mD n h) :=
 PG.imp (acR hc hh hn hst) fun v σ H Q ⟨ρ,G,d,s,r,ρ',e,q⟩=>by
  cases d with
  |tup ds =>
   unfold mD at e;dsimp only at e;by_cases hl:ds.length=n
   ·simp only[if_pos hl]at e;obtain⟨a,vs,rfl,q1,rr⟩:=bN.mp r;exact⟨a,vs,rfl,Same.iy s.en.gh q1,by rw[<- rr.length];exact hl,ρ,G,ds,s,rr,ρ',e,q⟩
   ·simp only[if_neg hl]at e;cases e
  |_=>cases e
noncomputable def oO(o:Option aD):Ou:=match o with|some ρ=>.nx ρ|none=>.no
theorem adM{tg e:ag}{pos:Pos}{f:aD->Rs D}{h:Tg}(he:SE X B W e f)(hg:SG X B tg h)(hs:ny [tg] e pos.line X.env=pure false:=by rfl)(hw:nz [tg] e X.env=pure none:=by rfl)
  (h1:(fF [tg] X.env).map (·.2)=[assign tg X.env]:=by rfl):SS X B W (.Assign [tg] e pos) (fun ρ=>oR (f ρ) ρ fun d=>oO (h d ρ)) :=
 PS.imp (Sw he hg hs hw h1) fun De σ H ⟨ρ,G,s,p⟩=>⟨ρ,G,s,gQ s p fun d v H' G' _ e r q=>by
  cases e1:h d ρ with
  |none=>rw[e1]at q;exact q.elim
  |some ρ'=>rw[e1]at q;exact⟨ρ,G',d,s.ext e,r,ρ',e1,fun σ' s'=>q σ' H' G' s' (.refl _)⟩⟩
theorem adN{i:Nat}{x:Str}{e:ag}{pos pos':Pos}{f:aD->Rs D}(hN:X.N.Nodup)(hi:X.N[i]?=some x)(hx:Kg X.env.scope x)(he:SE X B W e f)(hs:dS e (some (.Name x pos')) pos.line X.env=pure false:=by rfl)(hf:X.fn x=true∨X.env.scope.names.lookup x=some .local:=by first|exact .inl rfl|exact .inr rfl|assumption) :
  SS X B W (.Assign [.Name x pos'] e pos) (fun ρ=>oR (f ρ) ρ fun d=>.nx (ρ.set i (.fz d))) :=
 PS.imp (yN hN hi hx he hs hf) fun De σ H ⟨ρ,G,s,p⟩=>⟨ρ,G,s,gQ s p fun d v H' G' _ e r q=>q _ H' G' ((s.ext e).set r) (.refl _)⟩
theorem SR.Kw(h:SR K B σ H ρ G){i:Nat}{z:Sl}{o:HO}{p:ae}(w:z.own=true)(r:qG K G p z o)(hp:H p=none)(hz:z.lnt=false:=by rfl):SR K B (σ.set i (some (.ref p))) (upd H p o) (ρ.set i z) G:=by
 have x:=ZP (o:=o) h.en.gh h.en.tp (fun xs e=>by subst e;exact r.tup) hp;have h':=h.ext x;have mZ:∀{j:Nat}{y:Sl},(ρ.set i z)[j]?=some y->(i=j/\y=z/\i < ρ.length)∨(i≠j/\ρ[j]?=some y):=fun {j y} q=>by
  by_cases e:i=j
  ·subst e;have hl:i < ρ.length:=by have:=(dm.mp q).1;simpa using this
   rw[dy hl]at q;cases q;exact .inl ⟨rfl,rfl,hl⟩
  ·rw[cK e]at q;exact .inr ⟨e,q⟩
 refine⟨h'.en,by simp[h.len],fun j d q=>?_,fun j y q wy=>?_,fun j k y y' a q1 w1 q2 w2 q3 q4=>?_,fun j y a q1 wl q2=>?_,h'.co⟩
 ·rcases mZ q with ⟨_,e,_⟩|⟨e,q⟩
  ·rw[<- e]at w;cases w
  ·rw[cK e];exact h'.fz j d q
 ·rcases mZ q with ⟨e,e2,hl⟩|⟨e,q⟩
  ·subst e;subst e2;exact⟨p,o,dy (by rw[<- h.len];exact hl),aZ,h.en.gh.free hp,h.en.hh.free hp,r⟩
  ·rw[cK e];exact h'.own j y q wy
 ·have fresh:∀{l:Nat}{y:Sl},ρ[l]?=some y->y.own=true->σ[l]?≠some (some (.ref p)):=fun {l y} q wy z=>by
   obtain⟨a,vs',h1,h2,_⟩:=h.own l y q wy;rw[h1]at z;have:a=p:=by injection z with z;injection z with z;injection z
   rw[this,hp]at h2;cases h2
  rcases mZ q1 with ⟨e1,_,l1⟩|⟨n1,z1⟩
  ·rcases mZ q2 with ⟨e2,_⟩|⟨n2,z2⟩
   ·exact e1.symm.trans e2
   ·subst e1;rw[dy (by rw[<- h.len];exact l1)]at q3;have:a=p:=by injection q3 with z;injection z with z;injection z with z;exact z.symm
    subst this;rw[cK n2]at q4;exact(fresh z2 w2 q4).elim
  ·rcases mZ q2 with ⟨e2,_,l2⟩|⟨n2,z2⟩
   ·subst e2;rw[dy (by rw[<- h.len];exact l2)]at q4;have:a=p:=by injection q4 with z;injection z with z;injection z with z;exact z.symm
    subst this;rw[cK n1]at q3;exact(fresh z1 w1 q3).elim
   ·rw[cK n1]at q3;rw[cK n2]at q4;exact h.ap j k y y' a z1 w1 z2 w2 q3 q4
 ·rcases mZ q1 with ⟨_,e,_⟩|⟨e,q⟩
  ·rw[e,hz]at wl;cases wl
  ·rw[cK e]at q2;exact h.tie j y a q wl q2
theorem SR.abS(h:SR K B σ H ρ G){i:Nat}{ds:List D}{vs:List V}{p:ae}(r:bD K G ds vs)(hp:H p=none):SR K B (σ.set i (some (.ref p))) (upd H p (.lst vs)) (ρ.set i (.ow ds)) G:=h.Kw rfl ⟨vs,rfl,r⟩ hp
theorem SR.uW(h:SR K B σ H ρ G){i:Nat}{y z:Sl}{o:HO}{a:ae}(q:ρ[i]?=some y)(wy:y.own=true)(ha:σ[i]?=some (some (.ref a)))(wz:z.own=true)(r:qG K G a z o)(hz:z.lnt=true->y.lnt=true:=by intro h;cases h):SR K B σ (upd H a o) (ρ.set i z) G:=by
 obtain⟨a',o0,e1,h2,h3,h4,h5⟩:=h.own i y q wy;have ea:a'=a:=by rw[e1]at ha;injection ha with z;injection z with z;injection z
 subst ea;have hl:i < ρ.length:=(dm.mp q).1;have mZ:∀{j:Nat}{x:Sl},(ρ.set i z)[j]?=some x->(i=j/\x=z)∨(i≠j/\ρ[j]?=some x):=fun {j x} q=>by
  by_cases e:i=j
  ·subst e;rw[dy hl]at q;cases q;exact .inl ⟨rfl,rfl⟩
  ·rw[cK e]at q;exact .inr ⟨e,q⟩
 have ne:∀b o,G b=some o->b≠a':=fun b o z w=>by rw[w,h3]at z;cases z
 refine⟨⟨h.en.gg,fun b o z=>?_,fun b o z=>?_,fun b xs z=>?_,h.en.nw⟩,by simp[h.len],fun j d z'=>?_,fun j x z' wx=>?_,fun j k x x' c z1 w1 z2 w2 z3 z4=>?_,fun j x c z1 wl z2=>?_,h.co.upd h2 h5.tab⟩
 ·rw[aW (aR z h4)];exact h.en.hh b o z
 ·rw[aW (ne b o z)];exact h.en.gh b o z
 ·by_cases w:b=a'
  ·subst w;rw[aZ]at z;cases z;exact r.tup.elim
  ·rw[aW w]at z;exact h.en.tp b xs z
 ·rcases mZ z' with ⟨_,e⟩|⟨_,z'⟩
  ·rw[<- e]at wz;cases wz
  ·exact h.fz j d z'
 ·rcases mZ z' with ⟨e,e2⟩|⟨e,z'⟩
  ·subst e;subst e2;exact⟨a',o,ha,aZ,h3,h4,r⟩
  ·obtain⟨b,us,w1,w2,w3,w4,w5⟩:=h.own j x z' wx;have hne:b≠a':=fun w=>by subst w;exact e (h.ap i j y x b q wy z' wx ha w1)
   exact⟨b,us,w1,by rw[aW hne];exact w2,w3,w4,w5⟩
 ·rcases mZ z1 with ⟨e1,_⟩|⟨_,z1⟩ <;> rcases mZ z2 with ⟨e2,_⟩|⟨_,z2⟩
  ·exact e1.symm.trans e2
  ·subst e1;exact h.ap i k y x' c q wy z2 w2 z3 z4
  ·subst e2;exact h.ap j i x y c z1 w1 q wy z3 z4
  ·exact h.ap j k x x' c z1 w1 z2 w2 z3 z4
 ·rcases mZ z1 with ⟨e1,e2⟩|⟨_,z1⟩
  ·subst e1;rw[e2]at wl;exact h.tie i y c q (hz wl) z2
  ·exact h.tie j x c z1 wl z2
theorem SR.write(h:SR K B σ H ρ G){i:Nat}{ds es:List D}{vs:List V}{a:ae}(q:ρ[i]?=some (.ow ds))(ha:σ[i]?=some (some (.ref a)))(r:bD K G es vs):SR K B σ (upd H a (.lst vs)) (ρ.set i (.ow es)) G:=h.uW q rfl ha rfl ⟨vs,rfl,r⟩
noncomputable def Cd(i:Nat)(ρ:aD):aD:=match ρ[i]? with|some (.ow ds)=>ρ.set i (.fz (.lst ds))|_=>ρ
theorem SR.Cd(h:SR K B σ H ρ G)(i:Nat):∃G',Same G G'/\SR K B σ H (Cd i ρ) G':=by
 unfold Vl.Cd;split
 ·rename_i ds q;obtain⟨a,vs,e1,h2,h3,h4,h5⟩:=h.ow i ds q;have hl:i < ρ.length:=(dm.mp q).1;have gg:Same G (upd G a (.lst vs)):=fun b o z=>by rw[aW (aR z h3)];exact z
  refine⟨upd G a (.lst vs),gg,⟨h.en.gg.trans gg,h.en.hh,fun b o z=>?_,fun b xs z=>?_,fun b o z w=>?_⟩,by simp[h.len],fun j d z=>?_,fun j fs z wz=>?_,fun j k fs gs c z1 w1 z2 w2 z3 z4=>?_,fun j es c z1 wl z2=>?_,h.co⟩
  ·by_cases w:b=a
   ·subst w;rw[aZ]at z;cases z;exact h2
   ·rw[aW w]at z;exact h.en.gh b o z
  ·by_cases w:b=a
   ·subst w;rw[h2]at z;cases z
   ·rw[aW w];exact h.en.tp b xs z
  ·rw[aW (aR z h4)];exact h.en.nw b o z w
  ·by_cases e:i=j
   ·subst e;rw[dy hl]at z;cases z;exact⟨_,e1,bJ.mpr ⟨a,vs,rfl,.of aZ,h5.mono gg⟩⟩
   ·rw[cK e]at z;obtain⟨v,w1,w2⟩:=h.fz j d z;exact⟨v,w1,w2.mono gg⟩
  ·by_cases e:i=j
   ·subst e;rw[dy hl]at z;cases z;cases wz
   ·rw[cK e]at z;obtain⟨b,us,w1,w2,w3,w4,w5⟩:=h.own j fs z wz;have hne:b≠a:=fun w=>by subst w;exact e (h.ap i j _ fs b q rfl z wz e1 w1)
    exact⟨b,us,w1,w2,by rw[aW hne];exact w3,w4,w5.mono gg⟩
  ·have nj:i≠j:=fun e=>by subst e;rw[dy hl]at z1;cases z1;cases w1
   have nk:i≠k:=fun e=>by subst e;rw[dy hl]at z2;cases z2;cases w2
   rw[cK nj]at z1;rw[cK nk]at z2;exact h.ap j k fs gs c z1 w1 z2 w2 z3 z4
  ·have nj:i≠j:=fun e=>by subst e;rw[dy hl]at z1;cases z1;cases wl
   rw[cK nj]at z1;exact h.tie j es c z1 wl z2
 ·exact⟨G,.refl _,h⟩
theorem aag{st:List bg}{g:aD->Ou}(i:Nat)(h:xq X B W st g):xq X B W st (fun ρ=>g (Cd i ρ)) :=
 DG.imp h fun De σ H ⟨ρ,G,s,p⟩=>let ⟨G',gg,s'⟩:=s.Cd i;⟨_,G',s',cL.same p gg⟩
theorem adO{i:Nat}{x:Str}{es:List ag}{pos pos' lp:Pos}{f:aD->Rs (List D)}(hN:X.N.Nodup)(hi:X.N[i]?=some x)(hx:Kg X.env.scope x)(he:SA X B W es f)(hs:dS (.List es lp) (some (.Name x pos')) pos.line X.env=pure false:=by rfl)(hf:X.fn x=true∨X.env.scope.names.lookup x=some .local:=by first|exact .inl rfl|exact .inr rfl|assumption) :
  SS X B W (.Assign [.Name x pos'] (.List es lp) pos) (fun ρ=>oR (f ρ) ρ fun ds=>if ds.length<=1000 then .nx (ρ.set i (.ow ds)) else .no):=by
 refine PS.imp (yN hN hi hx (Ti he) hs hf) fun De σ H ⟨ρ,G,s,p⟩=>⟨ρ,G,s,?_⟩
 dsimp only at p;cases e:f ρ with
 |ok ds =>
  rw[e]at p;have p':cL X.K B W G (if ds.length<=1000 then .nx (ρ.set i (.ow ds)) else .no) De:=p;by_cases hl:ds.length<=1000
  ·rw[if_pos hl]at p';exact fun vs H' G' x r=>⟨by rw[<- r.length];exact Ei hl,fun c hc=>p' _ _ G' ((s.ext x).abS r hc) x.gg⟩
  ·rw[if_neg hl]at p';exact p'.elim
 |ex c n=>rw[e]at p;exact fun H' G' x=>p σ H' G' (s.ext x) x.gg
 |no=>rw[e]at p;exact p
theorem QL{i:Nat}{x:Str}{e:ag}{pos p1 p2 cp:Pos}{f:aD->Rs D}(hv:PE X (.Name x p1) (yL i))(he:SE X B W e f)
  (hst:bb [e] X.env=[(false,bj e X.env)]) {pe:PE X (.Call (.Attribute (.Name x p1) "append" p2) [e] [] cp) (tBM X.K "list" NQ (yL i) (Tf (tF X.K B W f) adk))}
  (hs:dS (.Call (.Attribute (.Name x p1) "append" p2) [e] [] cp) none pos.line X.env=pure false:=by rfl) :
  SS X B W (.Expr (.Call (.Attribute (.Name x p1) "append" p2) [e] [] cp) pos) (fun ρ=>match ρ[i]? with|some (.ow ds)=>oR (f ρ) ρ fun d=>if ds.length < 1000000 then .nx (ρ.set i (.ow (ds++[d]))) else .no|_=>.no):=by
 refine PS.imp (rO pe hs) fun De σ H fU=>?_;obtain⟨ρ,G,s,p⟩:=fU;dsimp only at p;cases q:ρ[i]? with
 |none=>rw[q]at p;exact p.elim
 |some z =>
  rw[q]at p;cases z with
  |no=>exact p.elim
  |fz d=>exact p.elim
  |od _=>exact p.elim
  |op _=>exact p.elim
  |oe _=>exact p.elim
  |ow ds =>
   obtain⟨a,vs,e1,h2,h3,h4,h5⟩:=s.ow i ds q;refine⟨_,e1,.inl ⟨rfl,vs,.of h2⟩,ρ,G,s,gQ s p fun d v H' G' _ x r p'=>?_⟩;by_cases hl:ds.length < 1000000
   ·rw[if_pos hl]at p';have s':=s.ext x;refine⟨a,vs,v,rfl,rfl,x.hh _ _ h2,by rw[<- h5.length];exact d5 hl (by rw[d8];decide),?_⟩;exact p' σ _ G' (s'.write q e1 ((h5.mono x.gg).append (.one r))) (.refl _)
   ·rw[if_neg hl]at p';exact p'.elim
end
noncomputable def dw(h:Tg)(gb:aD->Ou):List D->aD->Ou
 | [],ρ=>.nx ρ
 |d::ds,ρ=>match h d ρ with
  |none=>.no
  |some ρ1=>match gb ρ1 with
   | .nx ρ2=>dw h gb ds ρ2
   | .ct ρ2=>dw h gb ds ρ2
   | .bk ρ2=>.nx ρ2
   |o=>o
noncomputable def WF:Wi:=fun _ _ _ _=>False
section
variable{X:Cx}{K:ai}{B:Bs}{W:Wi}{σ:St}{G G' H:Hp}{ρ:aD}{De De':Ends}
theorem yQ{h:Tg}{gb:aD->Ou}{d:D}{ds:List D}{v:V}{Pv:St->Hp->Prop}(s:SR K B σ H ρ G)(r:Rep K G d v)(p:cL K B W G (dw h gb (d::ds) ρ) De)
  (hP:∀σ' H' ρ' G',SR K B σ' H' ρ' G'->Same G G'->cL K B W G' (dw h gb ds ρ') De->Pv σ' H') :
  tG K B h v σ H fun σ2 H2=>tS K B W gb { De with nx:=Pv,ct:=Pv,bk:=De.nx } σ2 H2:=by
 unfold dw at p;cases e:h d ρ with
 |none=>rw[e]at p;exact p.elim
 |some ρ1 =>
  rw[e]at p;refine⟨ρ,G,d,s,r,ρ1,e,fun σ1 s1=>⟨ρ1,G,s1,?_⟩⟩;dsimp only at p;cases e2:gb ρ1 with
  |nx ρ2=>rw[e2]at p;exact fun σ' H' G' s' q=>hP σ' H' ρ2 G' s' q (cL.same p q)
  |ct ρ2=>rw[e2]at p;exact fun σ' H' G' s' q=>hP σ' H' ρ2 G' s' q (cL.same p q)
  |bk ρ2=>rw[e2]at p;exact p
  |rt d=>rw[e2]at p;exact p
  |ex c n ρ2=>rw[e2]at p;exact p
  |no=>rw[e2]at p;exact p
  |rx d ρ2=>rw[e2]at p;exact p
  |rl ds=>rw[e2]at p;exact p
noncomputable def tM(h:Tg)(gb:aD->Ou)(f:aD->Rs D):aD->Ou:=fun ρ=>oR (f ρ) ρ fun d=>match d with|.lst ds=>dw h gb ds ρ|_=>.no
noncomputable def Cw(h:Tg)(gb:aD->Ou)(f:aD->Rs D):aD->Ou:=fun ρ=>oR (f ρ) ρ fun d=>match d with|.tup ds=>dw h gb ds ρ|_=>.no
noncomputable def jj(h:Tg)(gb:aD->Ou)(f:aD->Rs D):aD->Ou:=fun ρ=>oR (f ρ) ρ fun d=>match d with|.int n=>if-(2 ^ 62)<=n/\n < 2 ^ 62 then dw h gb ((bS n.toNat).map fun(i:Nat)=>.int i) ρ else .no|_=>.no
noncomputable def qI(h:Tg)(gb:aD->Ou)(fs:aD->Rs (List D)):aD->Ou:=fun ρ=>oR (fs ρ) ρ fun ds=>match ds with
 | [.int m,.int n]=>if (-(2 ^ 62)<=m/\m < 2 ^ 62/\-(2 ^ 62)<=n/\n < 2 ^ 62) then dw h gb ((bS (n - m).toNat).map fun(i:Nat)=>.int (m + i)) ρ else .no|_=>.no
theorem pD{tg iter:ag}{body:List bg}{pos:Pos}{f:aD->Rs D}{h:Tg}{gb:aD->Ou}(hp:kF (ay X.prog X.w) X.A X.env X.xe)(hc:X.calm=true)(hi:SE X B W iter f)(hg:SG X B tg h)(hb:xq X B W body gb)
  (hs:∀x,fN iter X.env x=pure x:=by intro _;rfl):SS X B W (.For tg iter body [] pos) (tM h gb f):=by
 refine PS.imp (DN hp hc (Nx hi) hg hb hs) fun De σ H fU=>?_;obtain⟨ρ,G,s,p⟩:=fU;refine⟨ρ,G,s,gQ s p fun d v H1 G1 _ e r p1=>?_⟩;cases d with
 |lst ds =>
  obtain⟨a,vs,rfl,q,rr⟩:=bJ.mp r;refine⟨a,rfl,⟨vs,e.gh.seq q⟩,SQ (fun i σ H=>∃ρ G,SR X.K B σ H ρ G/\qp X.K G a vs/\bD X.K G ds vs/\cL X.K B W G (dw h gb (ds.drop i) ρ) De) ⟨ρ,G1,s.ext e,q,rr,by simpa using p1⟩ (fun i σ H _ ⟨ρ,G,s,q,_⟩=>s.en.gh.seq q) ?_ ?_⟩
  ·rintro i x σ2 H2 hx ⟨ρ2,G2,s2,q2,r2,p2⟩;obtain⟨d,hd,rd⟩:=r2.get' hx;have hl:=(dm.mp hd).1;rw[i_ hl,(dm.mp hd).2]at p2;exact yQ s2 rd p2 fun σ' H' ρ' G' s' q' p'=>⟨ρ',G',s',q'.seq q2,r2.mono q',p'⟩
  ·rintro σ2 H2 ⟨ρ2,G2,s2,q2,r2,p2⟩;rw[<- r2.length,tj]at p2;exact p2 σ2 H2 G2 s2 (.refl _)
 |_=>exact p1.elim
theorem Ek{tg iter:ag}{body:List bg}{pos:Pos}{f:aD->Rs D}{h:Tg}{gb:aD->Ou}(hp:kF (ay X.prog X.w) X.A X.env X.xe)(hc:X.calm=true)(hi:SE X B W iter f)(hg:SG X B tg h)(hb:xq X B W body gb)
  (hs:∀x,fN iter X.env x=pure x:=by intro _;rfl):SS X B W (.For tg iter body [] pos) (Cw h gb f):=by
 refine PS.imp (DN hp hc (SN hi) hg hb hs) fun De σ H fU=>?_;obtain⟨ρ,G,s,p⟩:=fU;refine⟨ρ,G,s,gQ s p fun d v H1 G1 _ e r p1=>?_⟩;cases d with
 |tup ds =>
  obtain⟨a,vs,rfl,q,rr⟩:=bN.mp r;refine⟨a,rfl,⟨vs,Same.iy e.gh q⟩,Zw (fun i σ H=>∃ρ G,SR X.K B σ H ρ G/\mX X.K G a vs/\bD X.K G ds vs/\cL X.K B W G (dw h gb (ds.drop i) ρ) De) ⟨ρ,G1,s.ext e,q,rr,by simpa using p1⟩ (fun i σ H _ ⟨ρ,G,s,q,_⟩=>Same.iy s.en.gh q) ?_ ?_⟩
  ·rintro i x σ2 H2 hx ⟨ρ2,G2,s2,q2,r2,p2⟩;obtain⟨d,hd,rd⟩:=r2.get' hx;have hl:=(dm.mp hd).1;rw[i_ hl,(dm.mp hd).2]at p2;exact yQ s2 rd p2 fun σ' H' ρ' G' s' q' p'=>⟨ρ',G',s',Same.iy q' q2,r2.mono q',p'⟩
  ·rintro σ2 H2 ⟨ρ2,G2,s2,q2,r2,p2⟩;rw[<- r2.length,tj]at p2;exact p2 σ2 H2 G2 s2 (.refl _)
 |_=>exact p1.elim
theorem yR{h:Tg}{gb:aD->Ou}{lo:Int}{n:Nat}(s:SR K B σ H ρ G)(p:cL K B W G (dw h gb ((bS n).map fun(i:Nat)=>.int (lo + i)) ρ) De) :
  ∃W0:Nat->Nat->St->Hp->Prop,(∃m,W0 0 m σ H)/\∀i m σ H,W0 i m σ H ->
   ((SM lo n).stop i H/\De.nx σ H)∨((SM lo n).go i H/\∃N:St->Hp->Prop,(∀σ' H',N σ' H'->∃m',m' < m/\W0 (i + 1) m' σ' H')/\∀x H',(SM lo n).yld i H x H'->tG K B h x σ H' fun σ2 H2=>tS K B W gb { De with nx:=N,ct:=N,bk:=De.nx } σ2 H2):=by
 refine Qz (fun i σ H=>∃ρ G,SR K B σ H ρ G/\cL K B W G (dw h gb (((bS n).map fun(i:Nat)=>D.int (lo + i)).drop i) ρ) De) ⟨ρ,G,s,by simpa using p⟩ ?_ ?_
 ·rintro i σ2 H2 hi ⟨ρ2,G2,s2,p2⟩;have hl:i < ((bS n).map fun(i:Nat)=>D.int (lo + i)).length:=by simpa using hi
  rw[i_ hl]at p2;rw[show((bS n).map fun(i:Nat)=>D.int (lo + i))[i]=D.int (lo + i) by simp]at p2;exact yQ s2 (aX.mpr rfl) p2 fun σ' H' ρ' G' s' q' p'=>⟨ρ',G',s',p'⟩
 ·rintro σ2 H2 ⟨ρ2,G2,s2,p2⟩;rw[me (by simp)]at p2;exact p2 σ2 H2 G2 s2 (.refl _)
theorem jw{tg e:ag}{body:List bg}{pos p1 p2:Pos}{f:aD->Rs D}{h:Tg}{gb:aD->Ou}(hp:kF (ay X.prog X.w) X.A X.env X.xe) (hc:X.calm=true) (hm:X.mg "range"=none) (hi:SE X B W e f) (hg:SG X B tg h) (hb:xq X B W body gb)
  (hgl:Gl X "range":=by rfl) (hst:bb [e] X.env=[(false,bj e X.env)]:=by rfl)
  (hs:∀x,fN (.Call (.Name "range" p1) [e] [] p2) X.env x=pure x:=by intro _;rfl):SS X B W (.For tg (.Call (.Name "range" p1) [e] [] p2) body [] pos) (jj h gb f):=by
 refine PS.imp (DN hp hc (Qx hgl hm (gj hi lF (by rw[hst];rfl)) hst) hg hb hs) fun De σ H fU=>?_;obtain⟨ρ,G,s,p⟩:=fU;refine⟨ρ,G,s,gQ s p fun d v H1 G1 _ e r p1=>?_⟩;cases d with
 |int n =>
  dsimp only at p1;by_cases c:-(2 ^ 62)<=n/\n < 2 ^ 62
  ·rw[if_pos c]at p1;refine⟨n,by rw[aX.mp r],c.1,c.2,yR (s.ext e) ?_⟩;simpa using p1
  ·rw[if_neg c]at p1;exact p1.elim
 |_=>exact p1.elim
theorem yS{tg e e':ag}{body:List bg}{pos p1 p2:Pos}{f f':aD->Rs D}{h:Tg}{gb:aD->Ou}(hp:kF (ay X.prog X.w) X.A X.env X.xe) (hc:X.calm=true) (hm:X.mg "range"=none) (hi:SE X B W e f) (hi':SE X B W e' f') (hg:SG X B tg h) (hb:xq X B W body gb)
  (hgl:Gl X "range":=by rfl) (hst:bb [e,e'] X.env=[(false,bj e X.env),(false,bj e' X.env)]:=by rfl) (hst2:bb [e'] X.env=[(false,bj e' X.env)]:=by rfl)
  (hs:∀x,fN (.Call (.Name "range" p1) [e,e'] [] p2) X.env x=pure x:=by intro _;rfl):SS X B W (.For tg (.Call (.Name "range" p1) [e,e'] [] p2) body [] pos) (qI h gb (aj f (aj f' aK))):=by
 refine PS.imp (DN hp hc (Ci hgl hm (ak hi (ak hi' aH (by rw[hst2];rfl)) (by rw[hst,hst2])) hst hst2) hg hb hs) fun De σ H fU=>?_;obtain⟨ρ,G,s,p⟩:=fU;refine⟨ρ,G,s,?_⟩;unfold qI at p;cases e1:aj f (aj f' aK) ρ with
 |ok ds =>
  rw[e1]at p;intro vs H1 G1 e r;have p1:=cL.same p e.gg;simp only[oR]at p1;split at p1
  ·rename_i m n;obtain⟨v,vs',rfl,r1,r2⟩:=aV.mp r;obtain⟨v2,vs'',rfl,r3,r4⟩:=aV.mp r2;rw[aX.mp r1,aX.mp r3,bA.mp r4];by_cases c:(-(2 ^ 62)<=m/\m < 2 ^ 62/\-(2 ^ 62)<=n/\n < 2 ^ 62)
   ·rw[if_pos c]at p1;exact⟨m,n,rfl,c,yR (s.ext e) p1⟩
   ·rw[if_neg c]at p1;exact p1.elim
  ·exact p1.elim
 |ex c n=>rw[e1]at p;exact fun H' G' x=>p σ H' G' (s.ext x) x.gg
 |no=>rw[e1]at p;exact p
noncomputable def Ul:Ou->Ou
 | .ex _ _ _=>.no
 |o=>o
theorem QM{o:Ou}(p:cL K B W G (Ul o) De):cL K B WF G o De:=by
 cases o with
 |ex c n ρ=>exact p.elim
 |_=>exact p
theorem PS.Zo{st:bg}{t:TS}(h:PS X.Zo st t):PS X st t:=fun pins s σ H D I hw =>
 d6 (h pins s σ H D (I.wish _) hw) (fun _ _ q=>q.mq) fun _ _ z=>eM z
theorem adP{st:bg}{g:aD->Ou}(h:SS X.Zo B WF st g):SS X B W st (fun ρ=>Ul (g ρ)) :=
 PS.imp (PS.Zo h) fun De σ H ⟨ρ,G,s,p⟩=>⟨ρ,G,s,QM p⟩
noncomputable def zig(n:Int):Nat:=if 0<=n then 2 * n.toNat else 2 * (-n).toNat + 1
noncomputable def Bo(c:Str)(n:Int):aa:=.str c (zig n)
noncomputable def RP(K:ai)(G H:Hp)(Q:VK)(E:XK)(r:Rs D):Prop:=match r with
 | .ok d=>∀v H' G',Ext G H G' H'->Rep K G' d v->Q v H'
 | .ex c n=>∀H' G',Ext G H G' H'->E (Bo c n) none H'
 | .no=>False
noncomputable def spV(K:ai)(k:Nat)(g:List D->Rs D):Sp:=fun vs H Q E=>vs.length=k/\∃G ds,Ex0 K G H/\bD K G ds vs/\RP K G H Q E (g ds)
noncomputable def fQ:Ou->Rs D
 | .nx _=>.ok .non
 | .rt d=>.ok d
 | .ex c n _=>.ex c n
 |_=>.no
noncomputable def jx{α:Type}:Rs α->Rs α
 | .ex _ _=>.no
 |o=>o
noncomputable def aU(N:List Str)(ds:List D):aD:=ds.map .fz++fR (N.length - ds.length) .no
theorem yU{N:List Str}{ds:List D}{vs:List V}(e:Ex0 K G H)(r:bD K G ds vs):SR K ⟨G,H,0⟩ (L2.start N vs) H (aU N ds) G:=by
 have Um:∀(i:Nat) (z:Sl),(aU N ds)[i]?=some z->z.own=true->False:=fun i z q w=>by
  unfold aU at q;by_cases hi:i < (ds.map Sl.fz).length
  ·rw[eT hi,di]at q;cases e1:ds[i]? with
   |none=>rw[e1]at q;cases q
   |some d=>rw[e1]at q;cases q;cases w
  ·rw[gr (by lia),j5]at q;split at q <;> cases q;cases w
 refine⟨e.toExt,?_,fun i d q=>?_,fun i z q w=>(Um i z q w).elim,fun i j z z' a q w=>(Um i z q w).elim,fun i z a q wl=>(Um i z q (Sl.xY wl)).elim,e.co⟩
 ·unfold aU L2.start;simp[r.length]
 ·unfold aU at q;unfold L2.start;by_cases hi:i < (ds.map Sl.fz).length
  ·rw[eT hi,di]at q;cases e1:ds[i]? with
   |none=>rw[e1]at q;cases q
   |some d' =>
    rw[e1]at q;cases q;obtain⟨v,h1,h2⟩:=r.get e1;refine⟨v,?_,h2⟩;rw[eT (by rw[cn,<- r.length];simpa using hi),di,h1];rfl
  ·rw[gr (by lia),j5]at q;split at q <;> cases q
theorem Uo{o:Ou}{Q:VK}{E:XK}(h:RP K B.1 B.2 Q E (fQ o)):cL K B (fun c n _ H'=>E (Bo c n) none H') G o { nx:=fun _ H'=>Q .non H',rt:=Q }:=by
 cases o with
 |nx ρ'=>exact fun σ' H' G' s q=>h .non H' G' s.en (pA.mpr rfl)
 |rt d=>exact fun v H' G' x q r=>h v H' G' x r
 |ex c n ρ'=>exact fun σ' H' G' s q=>h H' G' s.en
 |bk _=>exact h.elim
 |ct _=>exact h.elim
 |no=>exact h.elim
 |rx _ _=>exact h.elim
 |rl _=>exact h.elim
section
variable{P:aS}{w:az}{mg:Str->Option aa}{base:aE}{x qual:Str}{st:bg}{f:ae}{fd:df}{N ps:List Str}{k:Nat}
end
end
theorem El{prog:aS}{w:az}{A:ba}{s:af}{R:Result->af->Prop}{elt target iter:ag}{ifs:List ag}{scope:Scope}{pos:Pos}{it acc:aa}{env:Env}(J:Nat->af->Prop)
  (turn:∀k t,J k t->aw (ay prog w) A (gd it) (fun o t1=>match o with
   |none=>R (.ok .next) t1
   |some x=>aw (ay prog w) A (o9 target it x) (fun _ t2=>aw (ay prog w) A (assign target env x) (fun _ t3 =>
     aw (ay prog w) A (forIn ifs true fun c go=>if go=true then do { let y <- isTrue c env (bj c env);pure (ForInStep.yield y) } else pure (ForInStep.yield go)) (fun yes t4 =>
      if yes=true then aw (ay prog w) A (bj elt env) (fun y t5 =>
       aw (ay prog w) A (call (.builtin "list.append") [acc,y]) (fun _ t6=>∃j,j < k/\J j t6) (fun _ _=>False) t5) (notedBy (ay prog w) A env fun x t'=>R (.error x) t') t4
      else ∃j,j < k/\J j t4) (fun _ _=>False) t3) (fun _ _=>False) t2) (fun _ _=>False) t1) (fun _ _=>False) t)
  (n:Nat) (h:J n s):i4 (ay prog w) A (.compLoop (.ListComp elt [⟨target,iter,ifs,0⟩] scope pos) 0 it acc env) R s:=by
 refine codeAny_loop rfl J (fun k t hJ=>?_) n h;show aw _ A (Sem.onRaise (compTurn (.ListComp elt [⟨target,iter,ifs,0⟩] scope pos) 0 it acc env) (fun x=>do mf x env;theTreesLotGoes x)) _ _ t;refine wpAny_noted ?_;rw[compTurn_list];refine ah (si (ah (d6 (turn k t hJ) (fun o t1 g1=>?_) fun _ _ z=>z.elim)));cases o with
 |none=>exact aT g1
 |some x =>
  refine ah (d6 g1 (fun _ t2 g2=>?_) fun _ _ z=>z.elim);refine ah (d6 g2 (fun _ t3 g3=>ah (d6 g3 (fun yes t4 g4=>?_) fun _ _ z=>z.elim)) fun _ _ z=>z.elim);cases yes with
  |true=>exact ah (ah (d6 g4 (fun y t5 g5=>ah (d6 g5 (fun _ t6 g6=>aT (aT ⟨rfl,g6⟩)) fun _ _ z=>z.elim)) fun _ _ z=>z))
  |false=>exact aT ⟨rfl,g4⟩
noncomputable abbrev dg(X:Cx)(N:List Str)(s₀:af)(H₀:Hp)(sc:Scope)(cl:List (Str×ae))(C:ae)(ex:List ae)(pins:List (ae×Obj)):Cx where
 prog:=X.prog
 w:=X.w
 K:=X.K
 mg:=X.mg
 base:=X.base
 A:=X.A
 N:=N
 s₀:=s₀
 H₀:=H₀
 env:=compEnvC sc cl C X.env
 outer:=X.stack
 stack:=X.stack
 ex:=ex
 fn:=fun _=>false
 calm:=X.calm
 pn:=X.pn++pins
 xe:=fun _ _=>False
noncomputable def eV(sc:Scope)(env:Env):List (Str×ae):=sc.names.foldl (fun cs y=>if y.2 == .free then (y.1,(env.cells.lookup y.1).getD 0)::cs else cs) []
theorem xR{sc:Scope}{env:Env}(h:∀y∈sc.names,y.2=.free->∃c,env.cells.lookup y.1=some c):closureFor sc env=pure (eV sc env):=by
 unfold closureFor eV;have key:∀(l:List (Str×ez)) (cs:List (Str×ae)),(∀y∈l,y.2=.free->∃c,env.cells.lookup y.1=some c) ->
   (forIn l cs (fun(x:Str×ez) (r:List (Str×ae))=>if (x.2 == ez.free)=true then do let a <- cellOf env x.1;pure (ForInStep.yield ((x.1,a)::r)) else pure (ForInStep.yield r)):Sem (List (Str×ae))) =
    pure (l.foldl (fun cs y=>if y.2 == .free then (y.1,(env.cells.lookup y.1).getD 0)::cs else cs) cs):=by
  intro l
  induction l with
  |nil=>intro cs _;rfl
  |cons y l ih =>
   intro cs hl;rw[List.forIn_cons,kR];by_cases hk:(y.2 == ez.free)=true
   ·obtain⟨c,hc⟩:=hl y eR (by simpa using hk);rw[if_pos hk,if_pos hk];unfold cellOf;rw[hc];exact ih _ fun z hz=>hl z (fv _ hz)
   ·rw[if_neg hk,if_neg hk];exact ih _ fun z hz=>hl z (fv _ hz)
 have:=key sc.names [] h;simp only[]at this ⊢;rw[this];rfl
theorem Uq{sc:Scope}{env:Env}:∀y∈eV sc env,(∃k∈sc.names,k.1=y.1/\k.2=.free)/\y.2=(env.cells.lookup y.1).getD 0:=by
 unfold eV;have key:∀(l:List (Str×ez)) (cs:List (Str×ae)) (y:Str×ae),y∈l.foldl (fun cs y=>if y.2 == .free then (y.1,(env.cells.lookup y.1).getD 0)::cs else cs) cs ->
   y∈cs∨((∃k∈l,k.1=y.1/\k.2=.free)/\y.2=(env.cells.lookup y.1).getD 0):=by
  intro l
  induction l with
  |nil=>intro cs y h;exact .inl h
  |cons z l ih =>
   intro cs y h;rw[kR]at h;rcases ih _ y h with h|⟨⟨k,hk,e⟩,e2⟩
   ·by_cases hz:(z.2 == ez.free)=true
    ·rw[if_pos hz]at h;rcases cm.mp h with e|h
     ·subst e;exact .inr ⟨⟨z,eR,rfl,by simpa using hz⟩,rfl⟩
     ·exact .inl h
    ·rw[if_neg hz]at h;exact .inl h
   ·exact .inr ⟨⟨k,fv _ hk,e⟩,e2⟩
 intro y hy;rcases key sc.names [] y hy with h|h
 ·cases h
 ·exact h
theorem Hx{sc:Scope}{env:Env}{n:Str}(h:(n,ez.free)∈sc.names):∃c,(eV sc env).lookup n=some c:=by
 have key:∀(l:List (Str×ez)) (cs:List (Str×ae)),((n,ez.free)∈l∨∃c,cs.lookup n=some c)->∃c,(l.foldl (fun cs y=>if y.2 == .free then (y.1,(env.cells.lookup y.1).getD 0)::cs else cs) cs).lookup n=some c:=by
  intro l
  induction l with
  |nil =>
   intro cs h;rcases h with h|h
   ·cases h
   ·exact h
  |cons z l ih =>
   intro cs h;rw[kR];refine ih _ ?_;rcases h with h|⟨c,hc⟩
   ·rcases cm.mp h with e|h
    ·subst e;refine .inr ⟨(env.cells.lookup n).getD 0,?_⟩;rw[if_pos (by rfl),List.lookup_cons_self]
    ·exact .inl h
   ·right;by_cases hz:(z.2 == ez.free)=true
    ·rw[if_pos hz];by_cases e:n=z.1
     ·subst e;exact⟨_,List.lookup_cons_self⟩
     ·exact⟨c,by rw[j7,show(n == z.1)=false by simpa using e];exact hc⟩
    ·rw[if_neg hz];exact⟨c,hc⟩
 exact key sc.names [] (.inl h)
section
variable{X:Cx}{pins:List (ae×Obj)}{σ:St}{H:Hp}{s:af}
theorem mF{sc:Scope}{env:Env}{x:Str}{k:ez}(h:(relabel sc env).names.lookup x=some k):(∃k',sc.names.lookup x=some k'/\(k'=k∨(k'=.free/\k=.cell))):=by
 have key:∀l:List (Str×ez),kS x (l.map fun(n,k)=>if (k == .free && env.scope.kind == .function && env.kindOf n == some .cell) then (n,ez.cell) else (n,k))=some k ->
   ∃k',l.lookup x=some k'/\(k'=k∨(k'=.free/\k=.cell)):=by
  intro l
  induction l with
  |nil=>intro h;cases h
  |cons y l ih =>
   intro h;obtain⟨n,kk⟩:=y;rw[bX]at h;by_cases e:(x == n)=true
   ·refine⟨kk,by rw[j7,e],?_⟩;dsimp only at h;split at h
    ·rename_i hc;rw[j7,e]at h;have h':ez.cell=k:=et h;exact .inr ⟨by simp only[kT,beq_iff_eq]at hc;exact hc.1.1,h'.symm⟩
    ·rw[j7,e]at h;exact .inl (et h)
   ·have e':(x == n)=false:=by simpa using e
    obtain⟨k',a,b⟩:=ih (by
     dsimp only at h;split at h <;> (rw[j7,e']at h;exact h))
    exact⟨k',by rw[j7,e'];exact a,b⟩
 exact key sc.names h
structure ug (X:Cx)(sc:Scope)(N:List Str)(nt:Nat)(caps:List Nat):Prop where
 kind:sc.kind=.function
 Ur:∀y∈sc.names,y.2≠.cell
 fr:∀y∈sc.names,y.2=.free->X.env.kindOf y.1=some .cell∨X.env.kindOf y.1=some .free
 len:N.length=nt + caps.length
 cap:∀(j i:Nat) (x:Str),caps[j]?=some i->N[nt + j]?=some x->X.N[i]?=some x/\sc.names.lookup x=some .free
theorem ug.cells{sc:Scope}{N:List Str}{nt:Nat}{caps:List Nat}(c:ug X sc N nt caps)(I:Inv X pins σ H s):∀y∈sc.names,y.2=.free->∃a,X.env.cells.lookup y.1=some a :=
 fun y hy hf=>I.ok.has y.1 (c.fr y hy hf)
theorem ug.cl{sc:Scope}{N:List Str}{nt:Nat}{caps:List Nat}(c:ug X sc N nt caps)(I:Inv X pins σ H s){x:Str}{a:ae}(h:(eV sc X.env).lookup x=some a):X.env.cells.lookup x=some a:=by have hm:=i6 h;obtain⟨⟨k,hk,e1,e2⟩,e3⟩:=Uq _ hm;obtain⟨b,hb⟩:=c.cells I k hk e2;rw[e1]at hb;dsimp only at e3 hb;rw[hb]at e3;rw[hb,e3];rfl
noncomputable def qJ(nt:Nat)(caps:List Nat)(σ:St):St:=fR nt none++caps.map fun i=>(σ[i]?).getD none
theorem Ky{sc:Scope}{N:List Str}{nt:Nat}{caps:List Nat}{fp:List ae}{h':aE}{tk:Nat}(c:ug X sc N nt caps)(I:Inv X pins σ H s)(hfp:∀b∈fp,xM X pins H b/\b < s.heap.objs.size)
  (hn:h'.Ns s.heap.objs.size fun _=>none) (hk:∀b o,s.heap.get? b=some o->h'.get? b=some o) :
  Inv (dg X N s H sc (eV sc X.env) s.heap.objs.size fp pins) [] (qJ nt caps σ) H { s with heap:=h',toks:=tk }:=by
 have clX:∀{x:Str}{a:ae},(eV sc X.env).lookup x=some a->X.env.cells.lookup x=some a:=fun h=>c.cl I h;have stk:∀b,b≠X.env.locals->b∉X.fs->b∉uO X.stack:=fun b h1 h2 h3=>(cm.mp (I.yJ b h3)).elim h1 h2;refine⟨⟨I.ok.mod,c.kind,I.ok.glob,I.ok.blt,bE _,fun x y a h1 h2=>I.ok.inj x y a (clX h1) (clX h2),fun x hx=>?_,fun x a hf=>absurd (show false=true from hf) sj,I.ok.hd,I.ok.frames,.inl rfl,fun b hb=>⟨cv (hfp b hb).2,fun x a ha=>(hfp b hb).1.2.2.2.2.1 x a (clX ha)⟩,
  fun b o e=>I.bs b o e,cx I.ok.bsz I.sz,fun b o e hb=>?_,fun b hb=>stk b (hfp b hb).1.2.1 (hfp b hb).1.2.2.1,I.stack,I.Dy⟩,
  rfl,I.bare,Un.kept hk,⟨_,hn,fun i x v h1 h2 h3=>?_⟩,fun x a ha=>?_,I.hok.fresh (bE _),fun x a ha=>I.qy x a (clX ha),fun p hp=>?_,I.hok.kept hk,?_⟩
 ·-- has
  have hx':(relabel sc X.env).names.lookup x=some .cell∨(relabel sc X.env).names.lookup x=some .free:=hx;have:sc.names.lookup x=some .free:=by
   rcases hx' with hx'|hx'
   ·obtain⟨k',h1,h2⟩:=mF hx';rcases h2 with h2|⟨h2,_⟩
    ·subst h2;exact(c.Ur _ (i6 h1) rfl).elim
    ·rw[h1,h2]
   ·obtain⟨k',h1,h2⟩:=mF hx';rcases h2 with h2|⟨h2,e⟩
    ·rw[h1,h2]
    ·cases e
  exact Hx (i6 this)
 ·-- Qv
  obtain⟨_,_,_,h4,_⟩:=(hfp b hb).1;rcases h4 with h4|h4
  ·exact I.ok.Qv b o e h4
  ·exact absurd (d5 (bP e) (cx I.ok.bsz h4)) (f_ _)
 ·-- loc
  unfold qJ at h2;by_cases hi:i < (fR nt (none:Option V)).length
  ·rw[eT hi,j5]at h2;split at h2 <;> cases h2
  ·rw[gr (by lia),di]at h2;rw[nI]at h2 hi;cases e:caps[i - nt]? with
   |none=>rw[e]at h2;cases h2
   |some k =>
    rw[e]at h2;have h2':(σ[k]?).getD none=some v:=et h2;have hs:σ[k]?=some (some v):=by
     cases e3:σ[k]? with
     |none=>rw[e3]at h2';cases h2'
     |some z=>rw[e3]at h2';exact congrArg some h2'
    obtain⟨hX,hl0⟩:=c.cap (i - nt) k x e (by rw[show nt + (i - nt)=i by lia];exact h1);have hf:(x,ez.free)∈sc.names:=i6 hl0;obtain⟨m,_,hl⟩:=I.loc;have hkind:=c.fr _ hf rfl;obtain⟨u,r,l⟩:=hl k x v hX hs (by rcases hkind with q|q;exact .inr (.inl q);exact .inr (.inr q));refine⟨u,r,.inr ⟨?_,?_⟩⟩
    ·have h3':(relabel sc X.env).names.lookup x=some .local∨(relabel sc X.env).names.lookup x=some .cell∨(relabel sc X.env).names.lookup x=some .free:=h3;rcases h3' with q|q|q
     ·obtain⟨k',a1,a2⟩:=mF q;exfalso;rw[hl0]at a1;cases a1;rcases a2 with a2|⟨_,a2⟩ <;> cases a2
     ·exact .inl q
     ·exact .inr q
    ·obtain⟨cc,hcc⟩:=Hx (env:=X.env) hf;refine⟨cc,hcc,?_⟩;rcases l with ⟨q,_⟩|⟨_,c2,hc2,z⟩
     ·rcases hkind with q'|q' <;> (rw[q]at q';cases q')
     ·rw[clX hcc]at hc2;cases hc2;obtain⟨o,ho,hd⟩:=z;exact⟨o,hk _ _ ho,hd⟩
 ·obtain⟨v,o,ho,hd⟩:=I.cell x a (clX ha);exact⟨v,o,hk _ _ ho,hd⟩
 ·rw[dP]at hp;obtain⟨e,n,ne,nf,d⟩:=I.pin p hp;exact⟨hk _ _ e,n,cv (bP e),stk _ ne nf,d⟩
 ·unfold qJ;rw[dn,nI,cn];exact c.len.symm
end
theorem Inv.moved{X:Cx}{pins:List (ae×Obj)}{σ:St}{H:Hp}{s:af}{h':aE}{t':Nat}(I:Inv X pins σ H s)(ch:List ae)
  (hch:∀b∈ch,X.s₀.heap.get? b=none/\b≠X.env.locals/\(∀x c,X.env.cells.lookup x=some c->c≠b)/\(∀p∈X.pn++pins,p.1≠b)/\H b=none)
  (keep:∀b o,b∉uO X.stack->b∉ch->s.heap.get? b=some o->h'.get? b=some o)
  (slot:∀b o,b∈uO X.stack->s.heap.get? b=some o->∃sl,h'.get? b=some { o with slots:=sl }):Inv X pins σ H { s with heap:=h',toks:=t' }:=by
 have sub:=I.yJ;have sup:∀b∈X.fs,b∈uO X.stack:=fun b hb=>by
  rcases I.ok.stk with e|⟨e,hf⟩
  ·rw[e];exact hb
  ·rw[e];unfold uO;rw[nh,hf];exact fv _ hb
 have neL:∀b o,X.s₀.heap.get? b=some o->b≠X.env.locals:=fun b o e=>cv (d5 (bP e) I.ok.above);have nch:∀b o,X.s₀.heap.get? b=some o->b∉ch:=fun b o e z=>by rw[(hch b z).1]at e;cases e
 have any:∀b o,b∉ch->s.heap.get? b=some o->∃sl,h'.get? b=some { o with slots:=sl }:=fun b o hc e=>by
  by_cases hb:b∈uO X.stack
  ·exact slot b o hb e
  ·exact⟨o.slots,keep b o hb hc e⟩
 have lch:X.env.locals∉ch:=fun z=>(hch _ z).2.1 rfl;have cch:∀x c,X.env.cells.lookup x=some c->c∉ch:=fun x c e z=>(hch c z).2.2.1 x c e rfl;have cellK:∀x c v,X.env.cells.lookup x=some c->s.heap.IsCell c v->h'.IsCell c v:=fun x c v e ⟨o,ho,hd⟩=>by obtain⟨sl,q⟩:=any c o (cch x c e) ho;exact⟨_,q,hd⟩
 refine⟨I.ok,I.os,I.bare,⟨fun b o e n hb hx=>?_,fun b o e n hb hx=>?_,I.base.free,fun b o e hx=>?_,I.base.tups,I.base.yG,I.base.Bg⟩,?_,fun x c e=>?_,I.free,I.qy,fun p hp=>?_,fun b o e=>?_,I.len⟩
 ·exact keep b o (fun z=>(cm.mp (sub b z)).elim (neL b o e) hb) (nch b o e) (I.base.keep b o e n hb hx)
 ·obtain⟨sl,q⟩:=I.base.slot b o e n hb hx;obtain⟨sl',q'⟩:=slot b _ (sup b hb) q;exact⟨sl',q'⟩
 ·obtain⟨o',q⟩:=I.base.there b o e hx;obtain⟨sl,q'⟩:=any b o' (nch b o e) q;exact⟨_,q'⟩
 ·obtain⟨m,⟨o,es,ep,ho,r⟩,hl⟩:=I.loc;obtain⟨sl,q⟩:=any _ o lch ho;refine⟨m,⟨_,es,ep,q,r⟩,fun i x v h1 h2 h3=>?_⟩;obtain⟨u,ru,l⟩:=hl i x v h1 h2 h3;refine⟨u,ru,?_⟩;rcases l with l|⟨k,c,e,z⟩
  ·exact .inl l
  ·exact .inr ⟨k,c,e,cellK x c _ e z⟩
 ·obtain⟨v,z⟩:=I.cell x c e;exact⟨v,cellK x c v e z⟩
 ·obtain⟨e,n,ne,nf,d⟩:=I.pin p hp;exact⟨keep _ _ (fun z=>(cm.mp (sub _ z)).elim ne nf) (fun z=>(hch _ z).2.2.2.1 p hp rfl) e,n,ne,nf,d⟩
 ·have tr:∀c u,H c=some u->c∉uO X.stack/\c∉ch:=fun c u z=>⟨fun w=>(by rw[I.Dy c w]at z;cases z),fun w=>(by rw[(hch c w).2.2.2.2]at z;cases z)⟩
  refine(I.hok b o e).stay (fun c u hc q=>?_) (fun _ q=>q) (fun _ _ q=>q) fun _ _ q=>q;rcases hc with hc|hc
  ·subst hc;exact keep c u (tr c _ e).1 (tr c _ e).2 q
  ·exact keep c u (tr c _ hc).1 (tr c _ hc).2 q
noncomputable def Tr(h:aE)(H:Hp)(old:aE)(av:List ae)(ea:ae)(vs:Array aa):Prop:=∃T oT ts x,vs[1]?=some (.ref T)/\T≠ea/\h.get? T=some oT/\oT.data=.fields ts/\ts[3]?=some x/\H T=none/\old.get? T=none/\T∉av
noncomputable def XFl(H:Hp)(old:aE)(od:Option ae)(c:Str)(n:Int):Prop:=n=0∨∃d i,n=2 * i + 1/\od=some d/\H d=some (.xd [(TF c,.int i)])/\old.get? d=none
theorem XFl.old{H:Hp}{old agu:aE}{od:Option ae}{c:Str}{n:Int}(h:XFl H old od c n)(k:∀b,old.get? b=none->agu.get? b=none):XFl H agu od c n:=h.imp id fun⟨d,i,h1,h2,h3,h4⟩=>⟨d,i,h1,h2,h3,k _ h4⟩
noncomputable def QS(K:ai)(old:aE)(av:List ae)(ea:ae)(c:Str)(n:Int)(h:aE)(H:Hp)(tr:Bool):Prop :=
 ∃C oe vs a0,i9 K cw c=some (some (.ref C))/\h.get? ea=some oe/\oe.cls=.ref C/\oe.data=.fields vs/\vs[0]?=some a0/\H ea=none/\old.get? ea=none/\ea∉av/\XFl H old oe.dict c n /\
  (if tr=true then Tr h H old av ea vs else vs[1]?=some .none)
noncomputable def wC(P:aS)(w:az)(K:ai):Tj:=fun outer H s E e s'=>∃ea c n H',e=.ref ea/\s'.os=s.os/\PyProof.Rows.AllBare s'.gens/\Un (uO outer) [] H H' s.heap s'.heap/\xK P w H' s'.heap/\QS K s.heap [] ea c n s'.heap H' true/\E (Bo c n) none H'
noncomputable def Oi(X:Cx)(W:Wi):Prop:=∀pins σ H s ea c n tr,Inv X pins σ H s->QS X.K X.s₀.heap ((X.pn++pins).map (·.1)) ea c n s.heap H tr->W c n σ H->X.xe (.ref ea) s
section
variable{X:Cx}{pins:List (ae×Obj)}{σ:St}{H:Hp}{s:af}{ea:ae}{c:Str}{n:Int}{tr:Bool}
theorem adQ(I:Inv X pins σ H s){b:ae}{o:Obj}{vs:Array aa}(e:s.heap.get? b=some o)(d:o.data=.fields vs)(hold:X.s₀.heap.get? b=none)(hn:H b=none)(hp:∀p∈X.pn++pins,p.1≠b) :
  X.s₀.heap.get? b=none/\b≠X.env.locals/\(∀x c,X.env.cells.lookup x=some c->c≠b)/\(∀p∈X.pn++pins,p.1≠b)/\H b=none:=by
 refine⟨hold,fun z=>?_,fun x c hc z=>?_,hp,hn⟩
 ·obtain⟨m,⟨o',es,ep,ho,hd,_⟩,_⟩:=I.loc;rw[<- z,e]at ho;cases ho;rw[d]at hd;cases hd
 ·obtain⟨v,o',ho,hd⟩:=I.cell x c hc;rw[z,e]at ho;cases ho;rw[d]at hd;cases hd
theorem uh{P:aS}{w:az}{H:Hp}{h:aE}{a:ae}{o:HO}(x:gq P w H h a o):∃u,h.get? a=some u:=by
 induction o with
 |lst xs=>obtain⟨z,its,n,r,e⟩:=x;exact⟨_,e⟩
 |tup xs=>obtain⟨z,its,r,ob,e,c⟩:=x;exact⟨_,e⟩
 |dK kvs=>obtain⟨z,y,vs,r,ob,es,ep,e,c⟩:=x;exact⟨_,e⟩
 |dT kvs=>obtain⟨z,y,xs,r,ob,es,ep,e,c⟩:=x;exact⟨_,e⟩
 |set S n=>obtain⟨ob,es,ep,t,e,c⟩:=x;exact⟨_,e⟩
 |ins C dx fs=>obtain⟨d,z,ne,e,_⟩:=x;exact⟨_,e⟩
 |own y=>obtain⟨ob,e⟩:=x;exact⟨_,e⟩
 |xd fs=>obtain⟨mA,⟨od,es,ep,e,c⟩,r⟩:=x;exact⟨_,e⟩
 |rng lo hi=>obtain⟨t,u,v,e⟩:=x;exact⟨_,e⟩
 |Cd ob u ih=>obtain⟨e,q⟩:=x;exact⟨_,e⟩
 |tbl ps=>exact⟨_,(show h.get? a=some { cls:=.none,data:=.fields ps } from x)⟩
 |tab q=>obtain⟨_,e,_⟩:=x;exact⟨_,e⟩
 |Sq q=>obtain⟨_,_,_,e,_⟩:=x;exact⟨_,e⟩
 |met f y=>exact⟨_,(show h.get? a=some (o7 (.ref f) (.ref y)) from x)⟩
 |ext φ=>obtain⟨p,⟨o,e⟩,st⟩:=x;exact⟨_,e⟩
theorem Cy(I:Inv X pins σ H s){ch:List ae}{h':aE}{t':Nat}(hch:∀b∈ch,∃o vs,s.heap.get? b=some o/\o.data=.fields vs/\X.s₀.heap.get? b=none/\H b=none/\b∉(X.pn++pins).map (·.1))
  (st:(kC s.heap (uO X.stack++ch)).StaysIn h') (up:s.heap.UpToSlots h'):Inv X pins σ H { s with heap:=h',toks:=t' }:=by
 refine Inv.moved I ch (fun b hb=>?_) (fun b o h1 h2 e=>st b o (r_ _ e (by rw[dt];exact fun z=>z.elim h1 h2))) (fun b o hb e=>?_)
 ·obtain⟨o,vs,e,d,h1,h2,h3⟩:=hch b hb;exact adQ I e d h1 h2 fun p hp z=>h3 (dC.mpr ⟨p,hp,z⟩)
 ·obtain⟨_,o',ho,hnf⟩:=I.stack.mem hb;rw[e]at ho;cases ho;exact up b o e hnf
theorem aai(I:Inv X pins σ H s)(hex:X.ex=[]){ch:List ae}{h':aE}{T:ae}{oT:Obj}{ts:Array aa}(hch:∀b∈ch,∃o vs,s.heap.get? b=some o/\o.data=.fields vs/\X.s₀.heap.get? b=none/\H b=none/\b∉(X.pn++pins).map (·.1))
  (up:s.heap.UpToSlots h') (hT:h'.get? T=some oT) (dT:oT.data=.fields ts) (hn:(kC s.heap (uO X.stack++ch)).get? T=none) :
  H T=none/\X.s₀.heap.get? T=none/\T∉(X.pn++pins).map (·.1):=by
 by_cases hc:T∈ch
 ·obtain⟨o,vs,e,d,h1,h2,h3⟩:=hch T hc;exact⟨h2,h1,h3⟩
 have hf:T∉uO X.stack:=fun z=>by obtain⟨_,o',ho,hnf⟩:=I.stack.mem z;obtain⟨sl,q⟩:=up T o' ho hnf;rw[hT]at q;cases q;exact hnf ts dT
 have hs:s.heap.get? T=none:=by
  cases e:s.heap.get? T with
  |none=>rfl
  |some o=>rw[r_ _ e (by rw[dt];exact fun z=>z.elim hf hc)]at hn;cases hn
 refine⟨?_,?_,fun z=>?_⟩
 ·cases e:H T with
  |none=>rfl
  |some u =>
   obtain⟨o,z⟩:=uh (I.hok T u e);rw[hs]at z;cases z
 ·cases e:X.s₀.heap.get? T with
  |none=>rfl
  |some o =>
   obtain⟨o',q⟩:=I.base.there T o e (by rw[hex];simp);rw[hs]at q;cases q
 ·obtain⟨p,hp,e⟩:=dC.mp z;have:=(I.pin p hp).1;rw[e,hs]at this;cases this
end
section
variable{X:Cx}{pins:List (ae×Obj)}{σ:St}{H:Hp}{s:af}{ea:ae}{c:Str}{n:Int}{tr:Bool}
theorem Us(I:Inv X pins σ H s)(F:QS X.K X.s₀.heap ((X.pn++pins).map (·.1)) ea c n s.heap H tr) :
  ∃ch:List ae,ea∈ch/\(∀b∈ch,∃o vs,s.heap.get? b=some o/\o.data=.fields vs/\X.s₀.heap.get? b=none/\H b=none/\b∉(X.pn++pins).map (·.1)) /\
   ∃C oe vs a0,i9 X.K cw c=some (some (.ref C))/\s.heap.get? ea=some oe/\oe.cls=.ref C/\oe.data=.fields vs/\vs[0]?=some a0/\XFl H X.s₀.heap oe.dict c n/\X.s₀.heap.get? ea=none/\H ea=none/\ea∉(X.pn++pins).map (·.1) /\
    (if tr=true then ∃T oT ts x,vs[1]?=some (.ref T)/\T∈ch/\T≠ea/\s.heap.get? T=some oT/\oT.data=.fields ts/\ts[3]?=some x else vs[1]?=some .none):=by
 obtain⟨C,oe,vs,a0,h1,h2,h3,h4,h5,h6,h7,h8,h9,h10⟩:=F;cases tr with
 |false =>
  refine⟨[ea],by simp,fun b hb=>?_,C,oe,vs,a0,h1,h2,h3,h4,h5,h9,h7,h6,h8,h10⟩;obtain rfl:b=ea:=by simpa using hb
  exact⟨oe,vs,h2,h4,h7,h6,h8⟩
 |true =>
  rw[if_pos rfl]at h10;obtain⟨T,oT,ts,x,t1,t2,t3,t4,t5,t6,t7,t8⟩:=h10;refine⟨[ea,T],by simp,fun b hb=>?_,C,oe,vs,a0,h1,h2,h3,h4,h5,h9,h7,h6,h8,?_⟩
  ·rcases cm.mp hb with rfl|hb
   ·exact⟨oe,vs,h2,h4,h7,h6,h8⟩
   ·obtain rfl:b=T:=by simpa using hb
    exact⟨oT,ts,t3,t4,t7,t6,t8⟩
  ·rw[if_pos rfl];exact⟨T,oT,ts,x,t1,by simp,t2,t3,t4,t5⟩
theorem QT(o:Obj)(f):(o.mapFields f).dict=o.dict:=by unfold hG;split <;> rfl
theorem Oj{M:Model}{A:ba}{base:aE}{env:Env}{outer:List Env}{L e:ae}{oe:Obj}{vs:Array aa}{hd0 a0:aa}{b0:Bool}{Q:Unit->af->Prop}{E:aa->af->Prop}(hfr:A.frames=some (env::outer))(hl:s.heap.FunFrames base (env::outer))(hf:env.frame=some L)
  (he:s.heap.get? e=some oe) (hkb:base.StaysIn s.heap) (hen:base.get? e=none) (hd:oe.data=.fields vs) (hsz:1 < vs.size) (h0:vs[0]?=some a0)
  (k:∀h',tm base (env::outer) e oe.cls a0 (cz L) s.heap h'->(∀o',h'.get? e=some o'->o'.dict=oe.dict)->Q () { s with heap:=h' }) :
  aw M A (frameOf env >>= fun fr=>entryPlaceOf L b0 >>= fun pl=>EntryCells.newEntry hd0 fr .none (cz L) .none pl >>= fun t=>setField (.ref e) 1 t) Q E s:=by
 have acH:e∉(env::outer).filterMap (·.frame):=fun z=>by obtain⟨_,o,ho,nf⟩:=hl.mem z;rw[he]at ho;cases ho;exact nf vs hd
 refine ah (wpAny_frameOf_fun hfr hl hf fun g ⟨_,g2,g3⟩=>ah (wpAny_entryPlaceOf fun pl hpl=>?_));unfold EntryCells.newEntry newFields;refine ah (iA ?_ (hpl.sizeOk5 _ _ _ _ _));generalize hT:({ cls:=.type "traceback",dict:=none,data:=_ }:Obj)=oT;have eg:g.get? e=some oe:=(g2 e acH).trans he;have kb:base.StaysIn g:=fun b o z=>(g2 b fun w=>by rw[(hl.mem w).1]at z;cases z).trans (hkb b o z);have ep:=cy (h:=g) oT eg;refine j8 ep hd hsz ?_;have ne:g.objs.size≠e:=lT (bP eg);have dat:=kU hd (·.setIfInBounds 1 (aa.ref g.objs.size));have self:=hV (hG (·.setIfInBounds 1 (aa.ref g.objs.size))) ep (nX dat);have other:∀b o,b≠e->g.get? b=some o->((g.push oT).update e (hG (·.setIfInBounds 1 (aa.ref g.objs.size)))).get? b=some o:=fun b o z w =>
  (i8 _ _ (dE z)).trans (cy _ w)
 have new:((g.push oT).update e (hG (·.setIfInBounds 1 (aa.ref g.objs.size)))).get? g.objs.size=some oT :=
  (i8 _ _ (dE ne)).trans (dA g (by rw[<- hT];rfl))
 have apart:∀b o,s.heap.get? b=some o->(∀ws,o.data≠.fields ws)->b≠e:=fun b o z nf w=>by rw[w,he]at z;cases z;exact nf vs hd
 refine k _ ⟨fun b o z=>other b o (fun w=>by rw[w,hen]at z;cases z) (kb b o z),hl.of_keeps fun b o z nf=>?_,?_,fun b o z nf=>?_⟩ fun o' z=>?_
 ·obtain⟨sl,w⟩:=g3 b o z;exact⟨_,other b _ (apart b o z nf) w,rfl⟩
 ·refine⟨_,_,g.objs.size,oT,_,self,⟨Obj.cls_mapFields _ _,by rw[tq (by decide)];exact h0⟩,dat,by simp[hsz],kb.fresh,ne,new,by rw[<- hT],?_⟩
  first|(simp;done)|(rcases hpl with rfl|⟨_,_,_,_,_,_,_,rfl⟩ <;> simp)
 ·obtain⟨sl,w⟩:=g3 b o z;exact⟨sl,other b _ (apart b o z nf) w⟩
 ·rw[self]at z;cases z;exact QT _ _
theorem Ut{M:Model}{A:ba}{base:aE}{env:Env}{outer:List Env}{L e:ae}{cls a0 fl:aa}{Q:Unit->af->Prop}{E:aa->af->Prop}(hfr:A.frames=some (env::outer))(hl:s.heap.FunFrames base (env::outer))(hf:env.frame=some L)
  {od:Option ae}(ht:s.heap.TracedAtW base e cls a0 fl) (hod:∀o',s.heap.get? e=some o'->o'.dict=od) (hkb:base.StaysIn s.heap) (hen:base.get? e=none) (h:∀h',tm base (env::outer) e cls a0 (cz L) s.heap h'->(∀o',h'.get? e=some o'->o'.dict=od)->Q () { s with heap:=h' }):aw M A (mf (.ref e) env) Q E s:=by
 by_cases c:fl=cz L
 ·subst c;exact wpAny_noteFrame_againW hf ht (h s.heap ⟨hkb,hl,ht,fun b o hb _=>⟨o.slots,hb⟩⟩ hod)
 obtain⟨oe,vs,T,oT,ts,he,⟨hcls,h0⟩,hd,h1,hnT,hTe,hT,hdT,h3⟩:=ht;subst hcls;unfold mf;simp only[hf];refine ah (n5 he hd h1 ?_);rw[if_pos (show(aa.ref T != aa.none)=true from by simp)];refine ah (n5 hT hdT h3 ?_);rw[if_neg (show ¬((fl == cz L)=true) from by simpa using c)];refine ah (j8 hT hdT (fS.mp h3).1 ?_);have other:∀b,b≠T->(s.heap.update T (hG (·.setIfInBounds 3 aa.none))).get? b=s.heap.get? b:=fun b hb=>i8 _ _ (dE hb);have noRecord:∀b o,s.heap.get? b=some o->(∀vs,o.data≠.fields vs)->b≠T:=fun b o hb hnf q=>by rw[q,hT]at hb;injection hb with hb;subst hb;exact hnf ts hdT
 refine Oj hfr (hl.of_keeps fun b o hb hnf=>⟨o,(other b (noRecord b o hb hnf)).trans hb,rfl⟩) hf ((other e (dE hTe)).trans he)
  (fun b o hbo=>(other b fun q=>by rw[q,hnT]at hbo;cases hbo).trans (hkb b o hbo)) hen hd (fS.mp h1).1 h0
  fun h' ⟨x1,x2,x3,x4⟩ x5=>h h' ⟨x1,x2,x3,fun b o hb hnf=>x4 b o ((other b (noRecord b o hb hnf)).trans hb) hnf⟩ fun o' e'=>(x5 o' e').trans (hod _ he)
theorem Uu{M:Model}{Q:Unit->af->Prop}{E:aa->af->Prop}{outer:List Env}{L:ae}(hst:X.stack=X.env::outer)(hf:X.env.frame=some L)(hex:X.ex=[])(I:Inv X pins σ H s)(F:QS X.K X.s₀.heap ((X.pn++pins).map (·.1)) ea c n s.heap H tr)
  (hQ:∀h',Inv X pins σ H { s with heap:=h' }->QS X.K X.s₀.heap ((X.pn++pins).map (·.1)) ea c n h' H true->s.heap.UpToSlots h'->Q () { s with heap:=h' }):aw M X.A (mf (.ref ea) X.env) Q E s:=by
 obtain⟨ch,he,hch,C,oe,vs,a0,h1,h2,h3,h4,h5,h9,h7,h6,h8,h10⟩:=Us I F;have hfr:X.A.frames=some (X.env::outer):=by rw[<- hst];exact I.ok.frames
 have hl:s.heap.FunFrames (kC s.heap (uO X.stack++ch)) (X.env::outer):=by have:=PySem.W.funFrames_hide (as:=uO X.stack++ch) I.stack fun env he b hb=>g7 _ (jI.mpr ⟨env,he,hb⟩);rw[hst]at this ⊢;exact this
 have hkb:(kC s.heap (uO X.stack++ch)).StaysIn s.heap:=fun b o e=>se _ e;have hn:∀b∈ch,(kC s.heap (uO X.stack++ch)).get? b=none:=fun b hb=>sf _ (fw _ hb);have fQ:∀h',tm (kC s.heap (uO X.stack++ch)) (X.env::outer) ea oe.cls a0 (cz L) s.heap h'->(∀o',h'.get? ea=some o'->o'.dict=oe.dict)->Q () { s with heap:=h' }:=fun h' ⟨k1,_,k2,k3⟩ kd=>by have I':=Cy (t':=s.toks) I hch k1 k3;obtain⟨oe',vs',T,oT,ts,e1,⟨e2,e3⟩,e4,e5,e6,e7,e8,e9,e10⟩:=k2;obtain⟨n1,n2,n3⟩:=aai I hex hch k3 e8 e9 e6;refine hQ h' I' ⟨C,oe',vs',a0,h1,e1,e2.trans h3,e4,e3,h6,h7,h8,by rw[kd _ e1];exact h9,?_⟩ k3;rw[if_pos rfl];exact⟨T,oT,ts,_,e5,e7,e8,e9,e10,n1,n2,n3⟩
 cases tr with
 |false =>
  rw[if_neg (by decide)]at h10;unfold mf;simp only[hf];refine ah (n5 h2 h4 h10 ?_);rw[if_neg (by decide)];exact Oj hfr hl hf h2 hkb (hn _ he) h4 (fS.mp h10).1 h5 fQ
 |true =>
  rw[if_pos rfl]at h10;obtain⟨T,oT,ts,x,t1,t0,t2,t3,t4,t5⟩:=h10;exact Ut hfr hl hf ⟨oe,vs,T,oT,ts,h2,⟨rfl,h5⟩,h4,t1,hn _ t0,t2,t3,t4,t5⟩ (fun o' e'=>by rw[h2]at e';cases e';rfl) hkb (hn _ he) fQ
theorem Uv{M:Model}{A:ba}{fr:Option ae}{Q:Unit->af->Prop}{E:aa->af->Prop}(I:Inv X pins σ H s)(F:QS X.K X.s₀.heap ((X.pn++pins).map (·.1)) ea c n s.heap H true)
  (hQ:∀h',Inv X pins σ H { s with heap:=h' }->QS X.K X.s₀.heap ((X.pn++pins).map (·.1)) ea c n h' H true->Q () { s with heap:=h' }) :
  aw M A (setFlight (.ref ea) fr) Q E s:=by
 obtain⟨ch,he,hch,C,oe,vs,a0,h1,h2,h3,h4,h5,h9,h7,h6,h8,h10⟩:=Us I F;rw[if_pos rfl]at h10;obtain⟨T,oT,ts,x,t1,t0,t2,t3,t4,t5⟩:=h10;have sz:3 < ts.size:=(fS.mp t5).1;obtain⟨_,_,_,_,n2,n1,n3⟩:=hch T t0;have other:∀b,b≠T->(s.heap.update T (hG (·.setIfInBounds 3 (fr.elim aa.none fun f=>cz f)))).get? b=s.heap.get? b:=fun b hb=>i8 _ _ (dE hb);unfold setFlight;refine ah (n5 h2 h4 t1 ?_);rw[if_pos (show(aa.ref T != aa.none)=true from by simp)];refine j8 t3 t4 sz (hQ _ (Cy (t':=s.toks) I hch (fun b o e=>?_) fun b o e hn=>⟨o.slots,(other b fun q=>?_).trans e⟩) ⟨C,oe,vs,a0,h1,(other ea (dE t2)).trans h2,h3,h4,h5,h6,h7,h8,h9,?_⟩)
 ·refine(other b fun q=>?_).trans (se _ e);rw[q,sf _ (fw _ t0)]at e;cases e
 ·rw[q,t3]at e;cases e;exact hn _ t4
 ·rw[if_pos rfl];exact⟨T,_,_,_,t1,t2,hV _ t3 (nX (kU t4 _)),kU t4 _,Array.getElem?_setIfInBounds_self_of_lt sz,n1,n2,n3⟩
theorem aaj{M:Model}{Q:Unit->af->Prop}{E:aa->af->Prop}{outer:List Env}{L:ae}(hst:X.stack=X.env::outer)(hf:X.env.frame=some L)(hex:X.ex=[])(I:Inv X pins σ H s)(F:QS X.K X.s₀.heap ((X.pn++pins).map (·.1)) ea c n s.heap H tr)
  (hQ:∀h',Inv X pins σ H { s with heap:=h' }->QS X.K X.s₀.heap ((X.pn++pins).map (·.1)) ea c n h' H true->Q () { s with heap:=h' }):aw M X.A (leaving X.env (.ref ea)) Q E s:=by
 unfold leaving;exact ah (Uu hst hf hex I F fun h' I' F' _=>Uv I' F' hQ)
end
section
variable{P:aS}{w:az}{K:ai}{mg:Str->Option aa}{base:aE}{x qual:Str}{st:bg}{f:ae}{fd:df}{N ps:List Str}{k:Nat}
theorem jk{scope:Scope}{cdv:aa}{A:ba}{outer:List Env}{s:af}{H:Hp}{E:XK}:Oi (qt (wC P w K) P w K mg base N qual scope f cdv A outer s H E) (fun c n _ H'=>E (Bo c n) none H'):=by intro pins σ H1 s1 ea c n tr I F w1;refine aaj (L:=s.heap.objs.size) (outer:=outer) rfl rfl rfl I F fun h' I' F'=>?_;obtain⟨C,oe,vs,a0,h1,h2,h3,h4,h5,h6,h7,h8,h9,h10⟩:=F';refine⟨ea,c,n,H1,rfl,I'.os,I'.bare,I'.base,I'.hok,⟨C,oe,vs,a0,h1,h2,h3,h4,h5,h6,h7,by simp,h9,?_⟩,w1⟩;rw[if_pos rfl]at h10 ⊢;obtain⟨T,oT,ts,x,t1,t2,t3,t4,t5,t6,t7,t8⟩:=h10;exact⟨T,oT,ts,x,t1,t2,t3,t4,t5,t6,t7,by simp⟩
end
theorem aak{a b:Int}(h:zig a=zig b):a=b:=by unfold zig at h;split at h <;> split at h <;> lia
theorem Ol{c c':Str}{n n':Int}(h:Bo c n=Bo c' n'):c=c'/\n=n':=by unfold Bo at h;injection h with h1 h2;exact⟨h1,aak h2⟩
noncomputable def qK(X:Cx)(W:Wi):Prop:=∀(pins:List (ae×Obj)) (σ:St) (H:Hp) (s:af) (e:aa) (s':af),Inv X pins σ H s ->
 wC X.prog X.w X.K X.stack H s (fun v _ H'=>∃c n,v=Bo c n/\W c n σ H') e s'->X.xe e s'
theorem cV{X:Cx}:qK X WF:=fun pins σ H s e s' I ⟨ea,c,n,H',_,_,_,_,_,_,_,_,_,w⟩=>w.elim
theorem Uw{X:Cx}{pins:List (ae×Obj)}{σ:St}{H H':Hp}{s:af}{ea:ae}{c:Str}{n:Int}{h:aE}(I:Inv X pins σ H s)(hex:X.ex=[])(F:QS X.K s.heap [] ea c n h H' true):QS X.K X.s₀.heap ((X.pn++pins).map (·.1)) ea c n h H' true:=by
 obtain⟨C,oe,vs,a0,h1,h2,h3,h4,h5,h6,h7,h8,h9,h10⟩:=F;have old:∀b,s.heap.get? b=none->X.s₀.heap.get? b=none:=fun b hb=>by
  cases q:X.s₀.heap.get? b with
  |none=>rfl
  |some o =>
   obtain⟨o',z⟩:=I.base.there b o q (by rw[hex];simp);rw[hb]at z;cases z
 have agv:∀b,s.heap.get? b=none->b∉(X.pn++pins).map (·.1):=fun b hb z=>by obtain⟨p,hp,e⟩:=dC.mp z;have:=(I.pin p hp).1;rw[e,hb]at this;cases this
 refine⟨C,oe,vs,a0,h1,h2,h3,h4,h5,h6,old _ h7,agv _ h7,h9.old old,?_⟩;rw[if_pos rfl]at h10 ⊢;obtain⟨T,oT,ts,x,t1,t2,t3,t4,t5,t6,t7,t8⟩:=h10;exact⟨T,oT,ts,x,t1,t2,t3,t4,t5,t6,old _ t7,agv _ t7⟩
theorem qL{X:Cx}{W:Wi}(hp:Oi X W)(hex:X.ex=[]):qK X W:=by intro pins σ H s e s' I ⟨ea,c,n,H',e1,os,bare,un,hok,F,c0,n0,e2,w⟩;subst e1;obtain⟨rfl,rfl⟩:=Ol e2;exact hp pins σ H' s' ea c n true (I.call' (ch:=[]) os un hok bare (fun b z=>absurd z (by simp))) (Uw I hex F) w
section
variable{P:aS}{w:az}{K:ai}{mg:Str->Option aa}{base:aE}{x qual:Str}{st:bg}{f:ae}{fd:df}{N ps:List Str}{k:Nat}
theorem agw{g:aD->Ou}(F:Fun K x qual st f fd)(S:bF N ps (aF st))
  (hb:∀(cdv:aa) (A:ba) (outer:List Env) (s:af) (H:Hp) (E:XK) (B:Bs),jt k (A.deeper (kX qual (aF st) s.heap.objs.size f cdv))->(∀b,s.heap.get? b=none->B.2 b=none) ->
   xq (qt (wC P w K) P w K mg base N qual (aF st) f cdv A outer s H E) B (fun c n _ H'=>E (Bo c n) none H') (cO st) g) :
  qD P w K mg base (wC P w K) (k + 1) f fd ps (spV K ps.length fun ds=>fQ (g (aU N ds))):=by
 obtain⟨oc,od,kV,doc,pm,an,cdv,ct,osl,rfl,lk,hcd⟩:=F.ex;refine Nz lk hcd S (fun vs H Q E h=>h.1) fun A outer s H vs Q E hr hok h=>?_;obtain⟨_,G,ds,e,r,h⟩:=h;dsimp only at h;exact⟨_,hb cdv A outer s H E ⟨G,H,0⟩ hr (fun b n=>by
  cases z:H b with
  |none=>exact z
  |some u=>obtain⟨o,w⟩:=uh (hok _ _ z);rw[n]at w;cases w),aU N ds,G,yU e r,Uo (B:=⟨G,H,0⟩) h⟩
theorem agx{g:aD->Ou}(F:Fun K x qual st f fd)(S:bF N ps (aF st))
  (hb:∀(cdv:aa) (A:ba) (outer:List Env) (s:af) (H:Hp) (E:XK) (B:Bs),jt k (A.deeper (kX qual (aF st) s.heap.objs.size f cdv)) ->
   xq (qt (wC P w K) P w K mg base N qual (aF st) f cdv A outer s H E) B (fun c n _ H'=>E (Bo c n) none H') (cO st) g) :
  qD P w K mg base (wC P w K) (k + 1) f fd ps (spV K ps.length fun ds=>fQ (g (aU N ds))):=agw F S fun cdv A outer s H E B hr _=>hb cdv A outer s H E B hr
end
noncomputable def bf(n:Nat)(g:List D->Rs D):List D->Rs D:=fun ds=>if ds.length=n then g ds else .no
section
variable{X:Cx}{B:Bs}{W:Wi}
theorem aal{x:Str}{p pos:Pos}{e:ag}{es:List ag}{fs:aD->Rs (List D)}{f:ae}{fd:df}{ps:List Str}{k n:Nat}{g:List D->Rs D}(F:qD X.prog X.w X.K X.mg X.base (wC X.prog X.w X.K) k f fd ps (spV X.K n g))(hr:jt k X.A)(hg:Gl X x)(hm:X.mg x=some (.ref f))(hk:g9 X.K (.ref f)=true)(hb:Binds X.K fd ps [])
  (hx:qK X W) (ha:SA X B W (e::es) fs) (hdb:qx x:=by decide) (he:bb (e::es) X.env=(false,bj e X.env)::bb es X.env:=by rfl) (hpl:(cS pos (bb es X.env)).any (·.1)=false:=by rfl) :
  SE X B W (.Call (.Name x p) (e::es) [] pos) (fA fs (bf n g)):=by
 intro pins s σ H Q I h;refine nL (xX I hg hm ?_ hdb);have h2:tAF X.K B W fs σ H fun vs H1=>spV X.K n g vs H1 Q fun v _ H'=>∃c n,v=Bo c n/\W c n σ H':=by
  obtain⟨ρ,G,s,p⟩:=h;refine⟨ρ,G,s,?_⟩;unfold fA at p;cases e:fs ρ with
  |ex c n=>rw[e]at p;exact p
  |no=>rw[e]at p;exact p
  |ok ds =>
   rw[e]at p;intro vs H1 G1 x r;have p:=Post.ext x p;unfold bf at p;dsimp only[Rs.bind]at p;by_cases hl:ds.length=n
   ·rw[if_pos hl]at p;refine⟨by rw[<- r.length];exact hl,G1,ds,(s.ext x).ex0,r,?_⟩;cases e1:g ds with
    |ok d=>rw[e1]at p;exact p
    |ex c n=>rw[e1]at p;exact fun H' G' y=>⟨c,n,rfl,p H' G' y⟩
    |no=>rw[e1]at p;exact p.elim
   ·rw[if_neg hl]at p;exact p.elim
 refine tw (h₀:=X.base) I.ok.mod.RN hk (jq (ha pos pins s σ H _ I h2) fun us s1 ⟨vs,H1,I1,r,q⟩=>⟨I1.GR,?_⟩) he hpl;have hl:(us++[]).length=ps.length:=by rw[dP,<- r.length];exact F.len _ _ _ _ q
 have hbb:=hb s1 us I1.GR hl;rw[dP]at hbb;refine pj (kQ (F.run X.A X.stack s1 H1 ⟨us,[]⟩ us vs Q _ hr I1.env0 hbb r q) fun r s' hq=>?_);cases r with
 |error e=>exact hx pins σ H1 s1 e s' I1 hq
 |ok fl =>
  cases fl with
  |ret u=>exact I1.after hq
  |next=>exact eM hq
  |brk=>exact eM hq
  |cont=>exact eM hq
theorem aam{K:ai}{h:aE}{C:ae}{bmB:List aa}{newId:String}(Z:K.In h)(q:tx K C bmB newId=true) :
  ∃bm N nm qn bs hd sn sub ab col dd k0 k1 k2 k3 k5 mN,h.get? C=some (excClassObj nm qn C N bs bm hd sn sub ab col dd k0 k1 k2 k3 k5 newId)/\h.Ns N mN/\mN "__init__"=none/\OwnTail h bmB bm:=by
 unfold tx at q;split at q
 next dd cl sl ho =>
  split at q
  next C1 tl a0 a1 a2 a3 nw a5 hmro hsl =>
   simp only[kT,Bool.not_eq_true',beq_iff_eq]at q;obtain⟨⟨⟨⟨⟨q1,q2⟩,q3⟩,q4⟩,q5⟩,q6⟩:=q;subst q1 q2;obtain⟨y1,y2,y3,y4,y5,y6,y7,y8,y9,y10,y11⟩:=cl;dsimp only at hmro q3 q5 q6;subst hmro q3;have e:sl=#[a0,a1,a2,a3,some (.builtin nw),a5]:=by cases sl;exact congrArg Array.mk hsl
   rw[e]at ho;exact⟨tl,y4,y1,y5,y2,y6,y7,y8,y9,y10,dd,a0,a1,a2,a3,a5,_,Z _ _ ho,.of_isNs (PySem.W.isNs_of_in Z q5),PySem.W.nsMap_none_of_in Z q5 q6,PySem.W.tail_of_in Z q4⟩
  next=>cases q
 next=>cases q
theorem yV{x:Str}{np cpos pos:Pos}{e:ag}{es:List ag}{fs:aD->Rs (List D)}{C:ae}{bmB bmN:List aa}{Bn Bb newId nid inN initId:String}
  (hp:Oi X W) (hex:X.ex=[]) (hc:X.calm=true) (hg:Gl X x) (hm:X.mg x=some (.ref C)) (hn:i9 X.K cw x=some (some (.ref C))) (q:tx X.K C bmB newId=true)
  (Fn:ExcBaseFacts Bn newId inN bmN) (hBn:bmB.contains (.type Bn)=true) (FB:ExcBaseFacts Bb nid initId bmB)
  (ha:SA X B W (e::es) fs) (hlen:(e::es).length<=1000) (hdb:qx x:=by decide) (he:bb (e::es) X.env=(false,bj e X.env)::bb es X.env:=by rfl) (hpl:(cS cpos (bb es X.env)).any (·.1)=false:=by rfl) :
  SS X B W (.Raise (some (.Call (.Name x np) (e::es) [] cpos)) none pos) (fun ρ=>oR (fs ρ) ρ fun ds=>if ds.length<=1000 then .ex x 0 ρ else .no):=by
 intro pins s σ H De I ⟨ρ,G,sr,p⟩;obtain⟨tl,N,nm,qn,bs,hdct,sn,sub,ab,col,dd,k0,k1,k2,k3,k5,mN,hC,hN,hni,T⟩:=aam I.ok.mod.RN q;refine wpAny_Raise_call_subU (C:=C) (nm:=nm) (q:=qn) (N:=N) (bs:=bs) (bm:=tl) (hdct:=hdct) (sn:=sn) (sub:=sub) (ab:=ab) (col:=col) (dd:=dd) (k0:=k0) (k1:=k1) (k2:=k2) (k3:=k3) (k5:=k5)
  Fn hBn FB (mN:=mN) (T.hasType FB.hasBase) (I.ok.hd hc) (by rw[he];show(false || (cS cpos (bb es X.env)).any (·.1))=false;rw[hpl];rfl) hni (xX I hg hm ⟨rfl,?_⟩ hdb)
 have h2:tAF X.K B W fs σ H fun vs H1=>vs.length<=1000/\W x 0 σ H1:=by
  refine⟨ρ,G,sr,?_⟩;dsimp only at p;cases e:fs ρ with
  |ok ds =>
   rw[e]at p;dsimp only[oR]at p;by_cases hl:ds.length<=1000
   ·rw[if_pos hl]at p;exact fun vs H1 G1 y r=>⟨by rw[<- r.length];exact hl,p σ H1 G1 (sr.ext y) y.gg⟩
   ·rw[if_neg hl]at p;exact p.elim
  |ex c n=>rw[e]at p;exact fun H1 G1 y=>p σ H1 G1 (sr.ext y) y.gg
  |no=>rw[e]at p;exact p
 have h3:=ha cpos pins s σ H _ I h2;rw[he]at h3 ⊢;refine sR (d6 h3 (fun us s2 ⟨vs,H1,I1,r,hl,w⟩=>⟨rfl,by rw[<- r.length];exact Ei hl,I1.bk _ _ hC,hN.keeps I1.bk,T.keeps I1.bk,fun h' ea hm'=>?_⟩) fun _ _ y=>y);have I2:Inv X pins σ H1 { s2 with heap:=h' }:=I1.kept (t':=s2.toks) hm'.keeps;obtain⟨t,h1,h2',h3'⟩:=hm'.there;have new:s2.heap.get? ea=none:=hm'.new;refine hp pins σ H1 _ ea x 0 false I2 ⟨C,_,_,_,hn,h1,rfl,rfl,rfl,?_,?_,fun z=>?_,.inl rfl,?_⟩ w
 ·cases z:H1 ea with
  |none=>rfl
  |some u=>obtain⟨o,z⟩:=uh (I1.hok _ _ z);rw[new]at z;cases z
 ·cases z:X.s₀.heap.get? ea with
  |none=>rfl
  |some o=>obtain⟨o',z⟩:=I1.base.there _ o z (by rw[hex];simp);rw[new]at z;cases z
 ·obtain⟨p,hp,e⟩:=dC.mp z;have:=(I1.pin p hp).1;rw[e,new]at this;cases this
 ·rw[if_neg (by decide)];rfl
end
noncomputable def Yl(K:ai)(J:It)(ds:List D)(G:Hp):Prop:=∀(i:Nat) (G1 H1:Hp),Same G G1->Ext G1 H1 G1 H1 ->
 (∀d,ds[i]?=some d->J.go i H1/\∀x H2,J.yld i H1 x H2->∃G2,Ext G1 H1 G2 H2/\Rep K G2 d x)/\(ds.length<=i->J.stop i H1)
noncomputable def Om(K:ai)(W:Wi)(σ:St)(G H:Hp)(r:Rs (List D))(R:It->Hp->Prop):Prop :=
 match r with
 | .ok ds=>∀J H' G',Ext G H G' H'->Yl K J ds G'->R J H'
 | .ex c n=>∀H' G',Ext G H G' H'->W c n σ H'
 | .no=>False
noncomputable def tI(K:ai)(B:Bs)(W:Wi)(f:aD->Rs (List D)):TI:=fun σ H R=>∃ρ G,SR K B σ H ρ G/\Om K W σ G H (f ρ) R
noncomputable def SI(X:Cx)(B:Bs)(W:Wi)(tg iter:ag)(f:aD->Rs (List D)):Prop:=PI X tg iter (tI X.K B W f)
noncomputable def Zf:D->Rs (List D)
 | .lst ds=>.ok ds
 |_=>.no
noncomputable def asT:D->Rs (List D)
 | .tup ds=>.ok ds
 |_=>.no
section
variable{X:Cx}{K:ai}{B:Bs}{W:Wi}{σ:St}{G H:Hp}{ρ:aD}{tg iter:ag}{f:aD->Rs D}
theorem PI.imp{t t':TI}(h:PI X tg iter t)(i:∀σ H R,t' σ H R->t σ H R):PI X tg iter t':=fun pins s σ H R I q=>h pins s σ H R I (i σ H R q)
theorem adR{a:ae}{ds:List D}{vs:List V}(q:mX K G a vs)(r:bD K G ds vs):Yl K (Itt K a) ds G:=by intro i G1 H1 gg e;have q1:=Same.iy e.gh (Same.iy gg q);refine⟨fun d hd=>?_,fun hl=>⟨vs,q1,by rw[<- r.length];exact hl⟩⟩;obtain⟨v,hv,rv⟩:=r.get hd;refine⟨⟨vs,v,q1,hv⟩,fun x H2 y=>?_⟩;obtain⟨e2,y⟩:=y;subst e2;have:=y vs q1;rw[hv]at this;cases this;exact⟨G1,e,rv.mono gg⟩
theorem Ux{lo:Int}{n:Nat}:Yl K (SM lo n) ((bS n).map fun(i:Nat)=>.int (lo + i)) G:=by
 intro i G1 H1 gg e;refine⟨fun d hd=>?_,fun hl=>show n<=i by simpa using hl⟩;have hi:i < n:=by have:=(dm.mp hd).1;simpa using this
 refine⟨hi,fun x H2 y=>?_⟩;obtain⟨e2,y⟩:=y;subst e2 y;rw[di,List.getElem?_range hi]at hd;cases hd;exact⟨G1,e,aX.mpr rfl⟩
theorem Oo{as:D->Rs (List D)}{r:Rs D}{R:It->Hp->Prop}{Q:VK}(p:Om K W σ G H (r.bind as) R)(h:∀d v H' G' ds,as d=.ok ds->Ext G H G' H'->Rep K G' d v->(∀J Od G'',Ext G' H' G'' Od->Yl K J ds G''->R J Od)->Q v H')(hn:∀d c n,as d≠.ex c n):Post K W σ G H r Q:=by
 cases r with
 |ok d =>
  intro v H' G' e rv;have p':Om K W σ G H (as d) R:=p;cases e1:as d with
  |ok ds=>rw[e1]at p';exact h d v H' G' ds e1 e rv fun J Od G'' e' y=>p' J Od G'' (e.trans e') y
  |ex c n=>exact(hn d c n e1).elim
  |no=>rw[e1]at p';exact p'.elim
 |ex c n=>exact p
 |no=>exact p
theorem aan(hi:SE X B W iter f):SI X B W tg iter (fun ρ=>(f ρ).bind Zf):=by
 refine PI.imp (Nx hi) fun σ H R ⟨ρ,G,s,p⟩=>⟨ρ,G,s,Oo p (fun d v H' G' ds e1 e rv k=>?_) (fun d c n z=>by cases d <;> cases z)⟩
 cases d with
 |lst es =>
  cases e1;obtain⟨a,vs,rfl,q,rr⟩:=bJ.mp rv;refine⟨a,rfl,⟨vs,e.gh.seq q⟩,k _ H' G' (.refl e.gh e.tp) ?_⟩;intro i G1 H1 gg e';have q1:=e'.gh.seq (gg.seq q);refine⟨fun d hd=>?_,fun hl=>⟨vs,q1,by rw[<- rr.length];exact hl⟩⟩;obtain⟨v,hv,rv⟩:=rr.get hd;refine⟨⟨vs,v,q1,hv⟩,fun x H2 y=>?_⟩;obtain⟨e2,y⟩:=y;subst e2;have:=y vs q1;rw[hv]at this;cases this;exact⟨G1,e',rv.mono gg⟩
 |_=>cases e1
theorem adS(hi:SE X B W iter f):SI X B W tg iter (fun ρ=>(f ρ).bind asT):=by
 refine PI.imp (SN hi) fun σ H R ⟨ρ,G,s,p⟩=>⟨ρ,G,s,Oo p (fun d v H' G' ds e1 e rv k=>?_) (fun d c n z=>by cases d <;> cases z)⟩
 cases d with
 |tup es =>
  cases e1;obtain⟨a,vs,rfl,q,rr⟩:=bN.mp rv;exact⟨a,rfl,⟨vs,Same.iy e.gh q⟩,k _ H' G' (.refl e.gh e.tp) (adR q rr)⟩
 |_=>cases e1
noncomputable def Uy(ρ:aD):Prop:=∀(i:Nat) (z:Sl),ρ[i]?=some z->z.own=true->False
noncomputable def nH(h:Tg):Prop:=∀d ρ ρ',Uy ρ->h d ρ=some ρ'->Uy ρ'
noncomputable def dY(nt:Nat)(caps:List Nat)(ρ:aD):aD:=fR nt .no++caps.map fun i=>match ρ[i]? with|some (.fz d)=>.fz d|_=>.no
noncomputable def eZ(h:Tg)(ft:aD->Rs Bool)(fe:aD->Rs D):List D->aD->Rs (List D)
 | [],_=>.ok []
 |d::ds,ρ=>match h d ρ with
  |none=>.no
  |some ρ1=>(ft ρ1).bind fun b=>if b=true then (fe ρ1).bind fun y=>(eZ h ft fe ds ρ1).bind fun ys=>.ok (y::ys) else eZ h ft fe ds ρ1
theorem pF{nt:Nat}{caps:List Nat}{ρ:aD}:Uy (dY nt caps ρ):=fun i z q w=>by
 unfold dY at q;by_cases hi:i < (fR nt Sl.no).length
 ·rw[eT hi,j5]at q;split at q <;> cases q;cases w
 ·rw[gr (by lia),di]at q;cases e:caps[i - (fR nt Sl.no).length]? with
  |none=>rw[e]at q;cases q
  |some k =>
   rw[e]at q;have q':(match ρ[k]? with|some (.fz d)=>Sl.fz d|_=>.no)=z:=et q;split at q' <;> (subst q';cases w)
theorem aao{nt:Nat}{caps:List Nat}{p:ae}(s:SR K B σ H ρ G)(hp:H p=none):SR K ⟨G,H,0⟩ (qJ nt caps σ) (upd H p (.lst [])) (dY nt caps ρ) G:=by
 refine⟨Oc s.en.gh s.en.tp hp,by simp[qJ,dY],fun i d q=>?_,fun i z q w=>(pF i z q w).elim,fun i j z z' a q w=>(pF i z q w).elim,fun i z a q wl=>(pF i z q (Sl.xY wl)).elim,s.co.same (Oc s.en.gh s.en.tp hp).hh⟩;unfold dY at q;unfold qJ;by_cases hi:i < nt
 ·rw[eT (by simpa using hi),j5]at q;split at q <;> cases q
 ·rw[gr (by simpa using hi),di,nI]at q;rw[gr (by simpa using hi),di,nI];cases e:caps[i - nt]? with
  |none=>rw[e]at q;cases q
  |some k =>
   rw[e]at q;have q':(match ρ[k]? with|some (.fz d)=>Sl.fz d|_=>.no)=.fz d:=et q;cases e2:ρ[k]? with
   |none=>rw[e2]at q';cases q'
   |some z =>
    rw[e2]at q';cases z with
    |fz d' =>
     cases q';obtain⟨v,h1,h2⟩:=s.fz k _ e2;exact⟨v,by simp[h1],h2⟩
    |no=>cases q'
    |ow _=>cases q'
    |od _=>cases q'
    |op _=>cases q'
    |oe _=>cases q'
theorem SR.off{p:ae}{vs us:List V}(s:SR K B σ H ρ G)(hn:Uy ρ)(hp:H p=some (.lst vs))(g:G p=none)(b:B.2 p=none):SR K B σ (upd H p (.lst us)) ρ G:=by
 refine⟨⟨s.en.gg,fun c o z=>?_,fun c o z=>?_,fun c xs z=>?_,s.en.nw⟩,s.len,s.fz,fun i z q w=>(hn i z q w).elim,fun i j z z' a q w=>(hn i z q w).elim,fun i z a q wl=>(hn i z q (Sl.xY wl)).elim,s.co.upd hp (fun _ z=>by cases z)⟩
 ·rw[aW (aR z b)];exact s.en.hh c o z
 ·rw[aW (aR z g)];exact s.en.gh c o z
 ·by_cases w:c=p
  ·subst w;rw[aZ]at z;cases z
  ·rw[aW w]at z;exact s.en.tp c xs z
noncomputable def dW(h:Tg)(ft:aD->Rs Bool)(fe:aD->Rs D)(nt:Nat)(caps:List Nat)(f:aD->Rs (List D)):aD->Rs D:=fun ρ =>
 (f ρ).bind fun ds=>jx ((eZ h ft fe ds (dY nt caps ρ)).bind fun ys=>if ys.length<=1000000 then .ok (.lst ys) else .no)
noncomputable def qM(h:Tg)(ft:aD->Rs Bool)(fe:aD->Rs D)(nt:Nat)(caps:List Nat)(f:aD->Rs (List D)):aD->Rs D:=fun ρ =>
 (f ρ).bind fun ds=>match eZ h ft fe ds (dY nt caps ρ) with
  | .ok ys=>if ys.length<=1000000 then .ok (.lst ys) else .no
  | .ex c n=>if ds.length<=1000000 then .ex c n else .no
  | .no=>.no
theorem Cz{h:Tg}{ft:aD->Rs Bool}{fe:aD->Rs D}:∀{ds:List D}{ρ:aD},eZ h (fun ρ=>jx (ft ρ)) (fun ρ=>jx (fe ρ)) ds ρ=jx (eZ h ft fe ds ρ)
 | [],_=>rfl
 |d::ds,ρ=>by
  unfold eZ;cases h d ρ with
  |none=>rfl
  |some ρ1 =>
   have ih:=Cz (h:=h) (ft:=ft) (fe:=fe) (ds:=ds) (ρ:=ρ1);dsimp only;generalize eZ h (fun ρ=>jx (ft ρ)) (fun ρ=>jx (fe ρ)) ds ρ1=x at ih ⊢;generalize eZ h ft fe ds ρ1=y at ih ⊢;subst ih;cases ft ρ1 with
   |ok b =>
    cases b with
    |true =>
     cases fe ρ1 with
     |ok z=>cases y <;> rfl
     |_=>rfl
    |false=>rfl
   |_=>rfl
theorem Em{h:Tg}{ft:aD->Rs Bool}{fe:aD->Rs D}{nt:Nat}{caps:List Nat}{f:aD->Rs (List D)}:dW h ft fe nt caps f=qM h (fun ρ=>jx (ft ρ)) (fun ρ=>jx (fe ρ)) nt caps f:=funext fun ρ=>by
 unfold dW qM;cases f ρ with
 |ok ds =>
  dsimp only[Rs.bind];rw[Cz];cases eZ h ft fe ds (dY nt caps ρ) with
  |ok ys=>show jx (if ys.length<=1000000 then _ else _)=if ys.length<=1000000 then _ else _;by_cases c:ys.length<=1000000 <;> simp only[c,if_true,if_false] <;> rfl
  |_=>rfl
 |_=>rfl
theorem wD{α:Type}{r:Rs α}{c:Str}{n:Int}(e:jx r=.ex c n):False:=by cases r <;> cases e
theorem En{e:ag}{f:aD->Rs D}(h:SE X.Zo B WF e f):SE X B W e (fun ρ=>jx (f ρ)) :=
 fun pins s σ H Q I ⟨ρ,G,sr,p⟩=>PE.Zo h pins s σ H Q I ⟨ρ,G,sr,by dsimp only at p;cases e:f ρ <;> (rw[e]at p;first|exact p|exact p.elim)⟩
theorem Eo{e:ag}{f:aD->Rs Bool}(h:ST X B WF e f):ST X B WF e (fun ρ=>jx (f ρ)) :=
 fun pins s σ H Q I ⟨ρ,G,sr,p⟩=>h pins s σ H Q I ⟨ρ,G,sr,by dsimp only at p;cases e:f ρ <;> (rw[e]at p;first|exact p|exact p.elim)⟩
noncomputable def Px(X:Cx)(W:Wi):Prop:=Oi X W/\X.ex=[]/\∃outer L,X.stack=X.env::outer/\X.env.frame=some L
theorem aap{old h h':aE}{av:List ae}{ea C:ae}{c:Str}{n:Int}{tr:Bool}{m:Str->Option aa}(F:QS K old av ea c n h H tr)(hn:h.Ns C m)(hs:ef C h h'):QS K old av ea c n h' H tr:=by
 have ne:∀b o (vs:Array aa),h.get? b=some o->o.data=.fields vs->h'.get? b=some o:=fun b o vs e d=>(hs.2 b fun z=>by
  obtain⟨o',es,ep,ho,hd,_⟩:=hn;rw[z,ho]at e;cases e;rw[hd]at d;cases d).trans e
 obtain⟨D,oe,vs,a0,h1,h2,h3,h4,h5,h6,h7,h8,h9,h10⟩:=F;refine⟨D,oe,vs,a0,h1,ne _ _ _ h2 h4,h3,h4,h5,h6,h7,h8,h9,?_⟩;cases tr with
 |false=>exact h10
 |true =>
  rw[if_pos rfl]at h10 ⊢;obtain⟨T,oT,ts,x,t1,t2,t3,t4,t5⟩:=h10;exact⟨T,oT,ts,x,t1,t2,ne _ _ _ t3 t4,t4,t5⟩
theorem Ep{prog:aS}{w:az}{A:ba}{E:aa->af->Prop}{s:af}{env:Env}{Q:Bool->af->Prop}(h:Q true s) :
  aw (ay prog w) A (forIn ([]:List ag) true fun c r=>if r=true then do let ok <- isTrue c env (bj c env);pure (ForInStep.yield ok) else pure (ForInStep.yield r)) Q E s:=by
 simp only[List.forIn_nil];exact aT h
noncomputable def adT(K:ai)(G H:Hp)(a:ae)(H':Hp)(d:D):Prop:=H a=none/\∃G0 ws es,Ext G H G0 H'/\G0 a=none/\H' a=some (.lst ws)/\d=.lst es/\bD K G0 es ws
theorem wF{elt:ag}{ifs:List ag}{sc:Scope}{pos:Pos}{N:List Str}{nt:Nat}{caps:List Nat}{h:Tg}{ft:aD->Rs Bool}{fe:aD->Rs D}{fi:aD->Rs (List D)}
  (c:ug X sc N nt caps) (hc:X.calm=true) (hnames:∀y∈sc.names,y.2=.local->sc.names.lookup y.1=some .local) (hi:SI X B W tg iter fi) (hno:nH h)
  (ht:∀s₀ H₀ C ex pins B',SG (dg X N s₀ H₀ sc (eV sc X.env) C ex pins) B' tg h)
  (hif:(ifs=[]/\ft=fun _=>.ok true)∨∃c,ifs=[c]/\(∀ρ c n,ft ρ≠.ex c n)/\∀s₀ H₀ C ex pins B',ST (dg X N s₀ H₀ sc (eV sc X.env) C ex pins) B' WF c ft)
  (he:∀s₀ H₀ C ex pins B' E W',qK ((dg X N s₀ H₀ sc (eV sc X.env) C ex pins).wish E) W'->SE ((dg X N s₀ H₀ sc (eV sc X.env) C ex pins).wish E) B' W' elt fe)
  (hx:(∀ρ c n,fe ρ≠.ex c n)∨Px X W) (hs:∀x,fN iter X.env x=pure x)
  {use:Option (aa->Sem Unit)}{QQ:aa->af->Prop}{pins:List (ae×Obj)}{s:af}{σ:St}{H G:Hp}{ρ:aD}(I:Inv X pins σ H s) (sr:SR X.K B σ H ρ G)
  (p:match qM h ft fe nt caps fi ρ with
   | .ok d=>∀(D' C:ae) (H' G':Hp) (s5:af) (fl:Flow),Ext G H G' H'->Rep X.K G' d (.ref D')->adT X.K G H D' H' d->(∃m,s5.heap.Ns C m)->xM X pins H' C->(∀h',ef C s5.heap h'->Inv X pins σ H' { s5 with heap:=h' })->compPost (ay X.prog X.w) X.A X.xe use QQ (.ref D') C (.ok fl) s5
   | .ex c n=>∀H' G',Ext G H G' H'->W c n σ H'
   | .no=>False) :
  aw (ay X.prog X.w) X.A (comprehension (.ListComp elt [⟨tg,iter,ifs,0⟩] sc pos) sc X.env (firstIterPos [⟨tg,iter,ifs,0⟩] pos) (newList []) (firstAsync [⟨tg,iter,ifs,0⟩]) (firstIter [⟨tg,iter,ifs,0⟩] X.env) use) QQ X.xe s:=by
 refine wpAny_comprehension_free (use:=use) (cl:=eV sc X.env) rfl hs (xR (c.cells I)) c.kind hnames ?_;show aw (ay X.prog X.w) X.A (bj iter X.env) _ X.xe s
 let PP:List D->Rs (List D)->Prop:=fun ds r=>match r with
  | .ok YS=>YS.length<=1000000/\∀(D' C:ae) (H' G':Hp) (s5:af) (fl:Flow),Ext G H G' H'->Rep X.K G' (.lst YS) (.ref D')->adT X.K G H D' H' (.lst YS)->(∃m,s5.heap.Ns C m)->xM X pins H' C->(∀h',ef C s5.heap h'->Inv X pins σ H' { s5 with heap:=h' })->compPost (ay X.prog X.w) X.A X.xe use QQ (.ref D') C (.ok fl) s5
  | .ex c n=>ds.length<=1000000/\∀H' G',Ext G H G' H'->W c n σ H'
  | .no=>False
 refine d6 (hi pins s σ H (fun J H2=>∃G2 ds,Ext G H G2 H2/\Yl X.K J ds G2/\PP ds (eZ h ft fe ds (dY nt caps ρ))) I ⟨ρ,G,sr,?_⟩) (fun v s1 h1=>d6 h1 (fun itv s2 h2=>?_) fun _ _ z=>z) fun _ _ z=>z
 ·unfold qM at p;cases e:fi ρ with
  |ok ds =>
   rw[e]at p;dsimp only[Rs.bind]at p;refine fun J H' G' x y=>⟨G',ds,x,y,?_⟩
   cases e:eZ h ft fe ds (dY nt caps ρ) with
   |ok YS =>
    rw[e]at p;by_cases hl:YS.length<=1000000
    ·simp only[if_pos hl]at p;exact⟨hl,p⟩
    ·simp only[if_neg hl]at p
   |ex c n =>
    rw[e]at p;by_cases hl:ds.length<=1000000
    ·simp only[if_pos hl]at p;exact⟨hl,p⟩
    ·simp only[if_neg hl]at p
   |no=>rw[e]at p;exact p.elim
  |ex c n=>rw[e]at p;exact p
  |no=>rw[e]at p;exact p
 obtain⟨it,fp,tn,J,H2,e,I2,T,st2,f2,G2,ds,x2,yl,hPP⟩:=h2;subst e;refine iA (wpAny_newFunctionEnv c.Ur (by intro y hy;simp at hy) (fun h₁ hns₁ hsb₁=>?_) c.kind);have hD2:H2 s2.heap.objs.size=none:=I2.fresh;have I3:=I2.agl (ys:=[]) (its:=[]) (t':=s2.toks) .nil (by simp);have sr2:SR X.K B σ H2 ρ G2:=sr.ext x2;have fpl:∀b∈fp,b < s2.heap.objs.size:=fun b hb=>by obtain⟨o,ho,_⟩:=T.obj 0 _ st2 b hb;exact bP ho
 have hk:∀b o,(s2.heap.push { cls:=.type "list",data:=.seq ([]:List aa).toArray }).get? b=some o->h₁.get? b=some o:=fun b o z =>
  (hsb₁.2 b (cv (bP z))).trans (cy _ z)
 have agy:∀b∈fp,xM X pins (upd H2 s2.heap.objs.size (.lst [])) b/\b < (s2.heap.push { cls:=.type "list",data:=.seq ([]:List aa).toArray }).objs.size:=fun b hb=>by
  obtain⟨g1,g2⟩:=f2 b hb;refine⟨⟨?_,g2⟩,?_⟩
  ·rw[aW (cv (fpl b hb))];exact g1
  ·rw[pk];exact j9 (fpl b hb)
 have IY:=Ky (h':=h₁) (tk:=s2.toks + ([]:List (Str×aa)).length) c I3 agy hns₁ hk;generalize hC:(s2.heap.push { cls:=.type "list",data:=.seq ([]:List aa).toArray }).objs.size=C at *;have srY:=aao (nt:=nt) (caps:=caps) sr2 hD2;have stk:∀b,b≠X.env.locals->b∉X.fs->b∉uO X.stack:=fun b h1 h2 h3=>(cm.mp (I2.yJ b h3)).elim h1 h2;have hCl:s2.heap.objs.size + 1=C:=by rw[<- hC,pk]
 have stat:∀{H':Hp},(∀b∈fp,H' b=none)->∀b∈fp,xM (dg X N { s2 with heap:=s2.heap.push { cls:=.type "list",data:=.seq ([]:List aa).toArray },toks:=s2.toks } (upd H2 s2.heap.objs.size (.lst [])) sc (eV sc X.env) C fp pins) [] H' b:=fun {H'} hn b hb=>by
  obtain⟨_,g2,g3,g4,g5,g6⟩:=f2 b hb;refine⟨hn b hb,?_,stk b g2 g3,.inl hb,fun x a ha=>g5 x a (c.cl I2 ha),fun p hp=>?_⟩
  ·show b≠C;exact cv (hCl▸j9 (fpl b hb))
  ·rw[dP]at hp;exact g6 p hp
 let Y:=dg X N { s2 with heap:=s2.heap.push { cls:=.type "list",data:=.seq ([]:List aa).toArray },toks:=s2.toks } (upd H2 s2.heap.objs.size (.lst [])) sc (eV sc X.env) C fp pins
 let D':=s2.heap.objs.size
 have toX:∀{σ5:St}{H5:Hp}{s5:af},Inv Y [] σ5 H5 s5->∀h',ef C s5.heap h'->Inv X pins σ H5 { s5 with heap:=h' }:=fun {σ5 H5 s5} I5 h' hs'=>by
  have ne:∀b o,(s2.heap.push { cls:=.type "list",data:=.seq ([]:List aa).toArray }).get? b=some o->b≠C:=fun b o e z=>by have:=bP e;rw[hC,z]at this;exact f_ _ this
  have U:=I5.base;refine I3.call' (ch:=fp) (s':={ s5 with heap:=h' }) I5.os ⟨fun b o e n hb hx=>?_,fun b o e n hb hx=>?_,U.free,fun b o e hx=>?_,U.tups,U.yG,U.Bg⟩ (fun b o e=>?_) I5.bare fun b hb=>?_
  ·exact(hs'.2 b (ne b o e)).trans (U.keep b o e n hb hx)
  ·obtain⟨sl,q⟩:=U.slot b o e n hb hx;exact⟨sl,(hs'.2 b (ne b o e)).trans q⟩
  ·obtain⟨o',q⟩:=U.there b o e hx;exact⟨o',(hs'.2 b (ne b o e)).trans q⟩
  ·have fC:H5 C=none:=I5.free;refine(I5.hok b o e).stay (fun c' u' hc' q=>(hs'.2 c' ?_).trans q) (fun _ q=>q) (fun _ _ q=>q) fun _ _ q=>q;rintro rfl;rcases hc' with rfl|hc'
   ·rw[fC]at e;cases e
   ·rw[fC]at hc';cases hc'
  ·obtain⟨_,g2,_,g4,g5,g6⟩:=f2 b hb;exact⟨g4,g2,g5,g6⟩
 have hfx:∀ρ c n,ft ρ≠.ex c n:=by
  rcases hif with ⟨_,e2⟩|⟨_,_,h,_⟩
  ·subst e2;exact fun _ _ _ z=>nomatch z
  ·exact h
 let Jn:Nat->af->Prop:=fun n s4=>∃(i:Nat) (ρ':aD) (σ':St) (H' G':Hp) (yds:List D) (QV:List V),Inv Y [] σ' H' s4/\tn i s4.heap/\(∀b∈fp,H' b=none)/\SR X.K ⟨G2,H2,0⟩ σ' H' ρ' G'/\Uy ρ'/\H' D'=some (.lst QV)/\G' D'=none /\
  bD X.K G' yds QV/\i<=ds.length/\n=ds.length - i/\yds.length<=i/\PP ds ((eZ h ft fe (ds.drop i) ρ').bind fun r=>.ok (yds++r))
 have loop:∀(n:Nat) (s4:af),Jn n s4->i4 (ay X.prog X.w) X.A (.compLoop (.ListComp elt [⟨tg,iter,ifs,0⟩] sc pos) 0 (.ref it) (.ref D') Y.env) (compPost (ay X.prog X.w) X.A X.xe use QQ (.ref D') C) s4:=by
  intro n0 s40 h0;refine El (J:=Jn) ?_ n0 h0;rintro n s4 ⟨i,ρ',σ',H',G',yds,QV,I4,CG,fr4,Uz,no4,hD4,hG4,ry4,hi4,rfl,hyi,hcd⟩;by_cases hlt:i < ds.length
  ·obtain⟨yes,_⟩:=yl i G' H' Uz.en.gg Uz.Bl;obtain⟨go,yields⟩:=yes ds[i] (by simp[hlt]);rw[i_ hlt]at hcd;unfold eZ at hcd;cases eh:h ds[i] ρ' with
   |none=>rw[eh]at hcd;exact hcd.elim
   |some ρ1 =>
    rw[eh]at hcd;dsimp only at hcd;refine jq (T.item Y rfl rfl rfl hc i [] s4 σ' H' (fun _ _=>False) I4 (stat fr4) CG go) fun r s5 fU=>?_;obtain⟨u,hr,h5⟩:=fU;subst hr;refine jq h5 fun _ s6 fU=>?_;obtain⟨x,H6,I6,r6,y6,st6,fr6⟩:=fU;obtain⟨G6,e6,aiE⟩:=yields x H6 y6;have sr6:=Uz.ext e6;have I6':=I6.pinned (stat fr6) (T.obj _ _ st6);refine jq (ht _ _ _ _ _ ⟨G2,H2,0⟩ _ s6 σ' H6 x u (fun σ7 H7=>H7=H6/\SR X.K ⟨G2,H2,0⟩ σ7 H6 ρ1 G6) I6' r6 ⟨ρ',G6,ds[i],sr6,aiE,ρ1,eh,fun σ7 z=>⟨rfl,z⟩⟩) fun _ s7 fU=>?_;obtain⟨σ7,H7,I7,eH7,sr7⟩:=fU;subst eH7;have no7:=hno _ _ _ no4 eh;have again:∀{σ8:St}{H8:Hp}{s8:af},Inv Y ([]++vY fp s6.heap) σ8 H8 s8->Inv Y [] σ8 H8 s8/\tn (i + 1) s8.heap/\∀b∈fp,H8 b=none:=fun {σ8 H8 s8} I8=>by refine⟨I8.uP,T.keep _ _ _ st6 fun b hb o e=>(I8.pin (b,o) (fw _ (fw _ (oZ hb e)))).1,fun b hb=>?_⟩;obtain⟨o,e,d⟩:=T.obj _ _ st6 b hb;exact(I8.pin (b,o) (fw _ (fw _ (oZ hb e)))).2.1
    obtain⟨b,hb,hcd⟩:∃b,ft ρ1=.ok b/\PP ds ((if b=true then (fe ρ1).bind fun y=>(eZ h ft fe (ds.drop (i + 1)) ρ1).bind fun ys=>.ok (y::ys) else eZ h ft fe (ds.drop (i + 1)) ρ1).bind fun r=>.ok (yds++r)):=by
     cases e:ft ρ1 with
     |ok b=>rw[e]at hcd;exact⟨b,rfl,hcd⟩
     |ex c n=>exact(hfx _ _ _ e).elim
     |no=>rw[e]at hcd;exact hcd.elim
    have test:aw (ay X.prog X.w) X.A (forIn ifs true fun c r=>if r=true then do let ok <- isTrue c Y.env (bj c Y.env);pure (ForInStep.yield ok) else pure (ForInStep.yield r)) (TP Y ([]++vY fp s6.heap) σ7 fun b' H8=>b'=b/\∃G8,Ext G6 H7 G8 H8) (fun _ _=>False) s7:=by
     rcases hif with ⟨e1,e2⟩|⟨cc,e1,_,hst⟩
     ·subst e1 e2;cases hb;exact Ep ⟨H7,I7,rfl,G6,sr7.Bl⟩
     ·subst e1;refine wpAny_tests_one (hst _ _ _ _ _ ⟨G2,H2,0⟩ _ s7 σ7 H7 _ I7 ⟨ρ1,G6,sr7,?_⟩);rw[hb];exact fun H8 G8 e8=>⟨rfl,G8,e8⟩
    refine jq test fun ok s8 fU=>?_;obtain⟨H8,I8,eb,G8,e8⟩:=fU;subst eb;have sr8:=sr7.ext e8;have hD8:H8 D'=some (.lst QV):=e8.hh _ _ (e6.hh _ _ hD4);have hG8:G8 D'=none:=e8.nw _ _ (e6.hh _ _ hD4) (e6.nw _ _ hD4 hG4);have ry8:=(ry4.mono e6.gg).mono e8.gg;cases ok with
    |true =>
     rw[if_pos rfl]at hcd ⊢
     let W1:Wi:=fun c n _ H9=>fe ρ1=.ex c n/\∃G9,Ext G8 H8 G9 H9
     let E1:aa->af->Prop:=fun e s'=>∃yK σ' H' s1,Inv Y yK σ' H' s1/\wC X.prog X.w X.K X.stack H' s1 (fun v _ Od=>∃c n,v=Bo c n/\W1 c n σ' Od) e s'
     refine d6 (he _ _ _ _ _ ⟨G2,H2,0⟩ E1 W1 (fun yK σ' H' s1 e s' I1 q=>⟨yK,σ',H',s1,I1.mq,q⟩) _ s8 σ7 H8 (fun v H9=>∃y G9,fe ρ1=.ok y/\Ext G8 H8 G9 H9/\Rep X.K G9 y v) (I8.wish E1) ⟨ρ1,G8,sr8,?_⟩) (fun u9 s9 ⟨v9,H9,I9,r9,y,G9,hy,e9,aiJ⟩=>?_) (fun e s' q=>?_)
     ·cases e:fe ρ1 with
      |ok y=>exact fun v H9 G9 e9 r=>⟨y,G9,rfl,e9,r⟩
      |ex c n=>exact fun H9 G9 e9=>⟨e,G9,e9⟩
      |no=>rw[e]at hcd;exact hcd.elim
     rotate_left
     ·obtain⟨yK,σ',H1,s1,I1,ea,c',n,H9,e1,os,bare,un,hok,F,c0,n0,e2,efe,G9,x9⟩:=q;subst e1;obtain⟨rfl,rfl⟩:=Ol e2;rcases hx with hx|⟨hp,hex,outer,L,hst,hf⟩
      ·exact(hx _ _ _ efe).elim
      rw[efe]at hcd;have J1:Inv Y [] σ' H1 s1:=I1.Dz fun p z=>absurd z (by simp);have J9:Inv Y [] σ' H9 s':=J1.call' (ch:=[]) os un hok bare (fun b z=>absurd z (by simp));obtain⟨m,hm,_⟩:=J9.loc;have fpk:xM X pins H9 C:=I3.Sy (sT hC) J9.free;show aw _ X.A (mf (.ref ea) X.env) _ _ s';refine Uu hst hf hex (toX J9 s'.heap (.refl C _)) (Uw (toX J1 s1.heap (.refl C _)) hex F) fun h' K2 F2 up=>?_;have fQ:∃m,h'.Ns C m/\∀h'',ef C h' h''->∀cenv:Env,cenv.locals=C->aw (ay X.prog X.w) X.A (passOn "comprehension.variables-let-go" (.ref ea) cenv:Sem aa) (fun _ _=>False) X.xe { s' with heap:=h'' }:=⟨m,up.ns hm,fun h'' hs cenv _=>by
       have K3:=K2.turned (t':=s'.toks) (fun b o hb e=>(hs.2 b hb).trans e) fpk.1 fpk.2.1 fpk.2.2.2.1 fpk.2.2.2.2.1 fpk.2.2.2.2.2;have F3:=aap F2 (up.ns hm) hs;obtain⟨_,oe,vs,a0,_,g2,_,g4,_,_,_,_,_,g10⟩:=id F3;rw[if_pos rfl]at g10;obtain⟨T,_,_,_,t1,_⟩:=g10;unfold passOn;refine ah (n5 g2 g4 t1 ?_);rw[if_neg (show ¬((aa.ref T == aa.none)=true) from by simp)];have go:aw (ay X.prog X.w) X.A (do setFlight (.ref ea) cenv.frame;throw (.ref ea):Sem aa) (fun _ _=>False) X.xe { s' with heap:=h'' }:=ah (Uv K3 F3 fun h3 K4 F4=>tz (hp pins σ H9 _ ea c' n true K4 F4 (hcd.2 H9 G9 (x2.trans (sr8.en.trans x9)))))
       first|exact go|exact ah (aT go)⟩
      cases use <;> exact fQ
     rw[hy]at hcd;have Kz:PP ds ((eZ h ft fe (ds.drop (i + 1)) ρ1).bind fun r=>.ok ((yds++[y])++r)):=by
      cases e:eZ h ft fe (ds.drop (i + 1)) ρ1 with
      |ok ys=>rw[e]at hcd;dsimp only[Rs.bind]at hcd ⊢;rw[eP];exact hcd
      |ex c n=>rw[e]at hcd;exact hcd
      |no=>rw[e]at hcd;exact hcd
     have hD9:=e9.hh _ _ hD8;have hG9:=e9.nw _ _ hD8 hG8;have ryl:=ry8.length;have hYl:yds.length < 1000000:=by
      cases e:eZ h ft fe (ds.drop (i + 1)) ρ1 with
      |ok ys =>
       rw[e]at Kz;have:=Kz.1;simp only[dn,ck]at this;lia
      |ex c n=>rw[e]at Kz;have:=Kz.1;lia
      |no=>rw[e]at Kz;exact Kz.elim
     refine jq (vZ (X:=Y) _ s9 σ7 H9 (.ref D') [v9] (.ref D') [u9] (fun _ H10=>H10=upd H9 D' (.lst (QV++[v9]))) I9.mq rfl (.cons r9 .nil) ⟨D',QV,v9,rfl,rfl,hD9,by rw[<- ryl];exact d5 hYl (by rw[d8];decide),rfl⟩) fun _ s10 fU=>?_;obtain⟨_,H10,I10,_,e10⟩:=fU;subst e10;obtain⟨J1,J2,J3⟩:=again I10;refine⟨ds.length - (i + 1),by lia,i + 1,ρ1,σ7,_,G9,yds++[y],QV++[v9],J1,J2,J3,(sr8.ext e9).off no7 hD9 hG9 hD2,no7,aZ,hG9,(ry8.mono e9.gg).append (.one aiJ),hlt,rfl,by rw[dn];exact Nat.succ_le_succ hyi,Kz⟩
    |false =>
     rw[if_neg (by simp)]at hcd ⊢;obtain⟨J1,J2,J3⟩:=again I8;exact⟨ds.length - (i + 1),by lia,i + 1,ρ1,σ7,H8,G8,yds,QV,J1,J2,J3,sr8,no7,hD8,hG8,ry8,hlt,rfl,Nat.le_succ_of_le hyi,hcd⟩
  ·have ei:i=ds.length:=by lia
   subst ei;obtain⟨_,no⟩:=yl ds.length G' H' Uz.en.gg Uz.Bl;rw[tj]at hcd;dsimp only[eZ,Rs.bind]at hcd;rw[dP]at hcd;have hQ:=hcd.2;refine jq (T.done Y rfl rfl rfl hc ds.length [] s4 σ' H' (fun _ _=>False) I4 (stat fr4) CG (no (bE _))) fun r s5 fU=>?_;obtain⟨hr,I5⟩:=fU;subst hr;obtain⟨m,hm,_⟩:=I5.loc;have fC0:H' C=none:=I5.free;refine hQ D' C H' (upd G' D' (.lst QV)) s5 _ ?_ ?_ ⟨by cases z:H D' with|none=>rfl|some o=>exact absurd (x2.hh _ _ z) (by rw[hD2];simp),G',QV,_,x2.trans Uz.en,hG4,hD4,rfl,ry4⟩ ⟨m,hm⟩ (I3.Sy (sT hC) fC0) (toX I5)
   ·have gg:Same G' (upd G' D' (.lst QV)):=fun b o z=>by rw[aW (aR z hG4)];exact z
    refine⟨(x2.gg.trans Uz.en.gg).trans gg,x2.hh.trans Uz.en.hh,fun b o z=>?_,fun b xs z=>?_,fun b o z w=>?_⟩
    ·by_cases e:b=D'
     ·subst e;rw[aZ]at z;cases z;exact hD4
     ·rw[aW e]at z;exact Uz.en.gh b o z
    ·by_cases e:b=D'
     ·subst e;rw[hD4]at z;cases z
     ·rw[aW e];exact Uz.en.tp b xs z
    ·have z2:=x2.hh b o z;rw[aW (aR z2 hD2)];exact Uz.en.nw b o z2 (x2.nw b o z w)
   ·have gg:Same G' (upd G' D' (.lst QV)):=fun b o z=>by rw[aW (aR z hG4)];exact z
    exact bJ.mpr ⟨D',QV,rfl,.of aZ,ry4.mono gg⟩
 have first:∀tk,Jn ds.length { s2 with heap:=h₁,toks:=tk }:=fun tk=>by have IY':Inv Y [] (qJ nt caps σ) (upd H2 s2.heap.objs.size (.lst [])) { s2 with heap:=h₁,toks:=tk }:=IY.tok tk;refine⟨0,dY nt caps ρ,qJ nt caps σ,upd H2 D' (.lst []),G2,[],[],IY',T.keep _ _ _ st2 fun b hb o e=>hk b o (cy _ e),fun b hb=>(agy b hb).1.1,srY,pF,aZ,sr2.en.gh.free hD2,bA.mpr rfl,eJ _,rfl,bE _,by cases e:eZ h ft fe ds (dY nt caps ρ) <;> (rw[e]at hPP;simpa[e,Rs.bind] using hPP)⟩
 exact codeAny_compStart_list (loop _ _ (first _)) (T.self _ 0 _ _ _ (T.keep _ _ _ st2 fun b hb o e=>hk b o (cy _ e)) (loop _ _ (first _)))
theorem UJ{elt:ag}{ifs:List ag}{sc:Scope}{pos:Pos}{N:List Str}{nt:Nat}{caps:List Nat}{h:Tg}{ft:aD->Rs Bool}{fe:aD->Rs D}{fi:aD->Rs (List D)}
  (c:ug X sc N nt caps) (hc:X.calm=true) (hnames:∀y∈sc.names,y.2=.local->sc.names.lookup y.1=some .local) (hi:SI X B W tg iter fi) (hno:nH h)
  (ht:∀s₀ H₀ C ex pins B',SG (dg X N s₀ H₀ sc (eV sc X.env) C ex pins) B' tg h)
  (hif:(ifs=[]/\ft=fun _=>.ok true)∨∃c,ifs=[c]/\(∀ρ c n,ft ρ≠.ex c n)/\∀s₀ H₀ C ex pins B',ST (dg X N s₀ H₀ sc (eV sc X.env) C ex pins) B' WF c ft)
  (he:∀s₀ H₀ C ex pins B' E W',qK ((dg X N s₀ H₀ sc (eV sc X.env) C ex pins).wish E) W'->SE ((dg X N s₀ H₀ sc (eV sc X.env) C ex pins).wish E) B' W' elt fe)
  (hx:(∀ρ c n,fe ρ≠.ex c n)∨Px X W)
  (hs:∀x,fN iter X.env x=pure x:=by intro _;rfl) :
  SE X B W (.ListComp elt [⟨tg,iter,ifs,0⟩] sc pos) (qM h ft fe nt caps fi):=by
 intro pins s σ H Q I hw;obtain⟨ρ,G,sr,p⟩:=hw;rw[eval_ListComp];refine wF c hc hnames hi hno ht hif he hx hs I sr ?_;cases e:qM h ft fe nt caps fi ρ with
 |ok d =>
  rw[e]at p;intro D' C H' G' s5 fl x r _ ⟨m,hm⟩ _ IX;exact⟨m,hm,fun h' hs'=>⟨.ref D',H',IX h' hs',rfl,p _ _ _ x r⟩⟩
 |ex c n=>rw[e]at p;exact p
 |no=>rw[e]at p;exact p
noncomputable def tN(K:ai)(B:Bs)(W:Wi)(f:aD->Rs D):TE:=fun σ H Q=>∃ρ G,SR K B σ H ρ G/\(match f ρ with
 | .ok d=>∀a H',adT K G H a H' d->Q (.ref a) H'
 | .ex c n=>∀H' G',Ext G H G' H'->W c n σ H'
 | .no=>False)
theorem UL{elt:ag}{ifs:List ag}{sc:Scope}{pos:Pos}{N:List Str}{nt:Nat}{caps:List Nat}{h:Tg}{ft:aD->Rs Bool}{fe:aD->Rs D}{fi:aD->Rs (List D)}
  (c:ug X sc N nt caps) (hc:X.calm=true) (hnames:∀y∈sc.names,y.2=.local->sc.names.lookup y.1=some .local) (hi:SI X B W tg iter fi) (hno:nH h)
  (ht:∀s₀ H₀ C ex pins B',SG (dg X N s₀ H₀ sc (eV sc X.env) C ex pins) B' tg h)
  (hif:(ifs=[]/\ft=fun _=>.ok true)∨∃c,ifs=[c]/\∀s₀ H₀ C ex pins B',ST (dg X N s₀ H₀ sc (eV sc X.env) C ex pins) B' WF c ft)
  (he:∀s₀ H₀ C ex pins B',SE (dg X N s₀ H₀ sc (eV sc X.env) C ex pins) B' WF elt fe)
  (hs:∀x,fN iter X.env x=pure x:=by intro _;rfl) :
  PE X (.ListComp elt [⟨tg,iter,ifs,0⟩] sc pos) (tN X.K B W (dW h ft fe nt caps fi)):=by
 intro pins s σ H Q I hw;obtain⟨ρ,G,sr,p⟩:=hw;rw[Em]at p;rw[eval_ListComp];refine wF c hc hnames hi hno ht (hif.imp (fun⟨a,b⟩=>⟨a,by rw[b];rfl⟩) fun⟨c,a,b⟩=>⟨c,a,fun _ _ _=>wD,fun s₀ H₀ C ex pins B'=>Eo (b s₀ H₀ C ex pins B')⟩) (fun s₀ H₀ C ex pins B' E W' _=>En (he s₀ H₀ C ex pins B')) (.inl fun _ _ _=>wD) hs I sr ?_;cases e:qM h (fun ρ=>jx (ft ρ)) (fun ρ=>jx (fe ρ)) nt caps fi ρ with
 |ok d =>
  rw[e]at p;intro D' C H' G' s5 fl x r nl ⟨m,hm⟩ _ IX;exact⟨m,hm,fun h' hs'=>⟨.ref D',H',IX h' hs',rfl,p D' H' nl⟩⟩
 |ex c n=>rw[e]at p;exact p
 |no=>rw[e]at p;exact p
theorem Oq{elt:ag}{ifs:List ag}{sc:Scope}{pos:Pos}{N:List Str}{nt:Nat}{caps:List Nat}{h:Tg}{ft:aD->Rs Bool}{fe:aD->Rs D}{fi:aD->Rs (List D)}
  (c:ug X sc N nt caps) (hc:X.calm=true) (hnames:∀y∈sc.names,y.2=.local->sc.names.lookup y.1=some .local) (hi:SI X B W tg iter fi) (hno:nH h)
  (ht:∀s₀ H₀ C ex pins B',SG (dg X N s₀ H₀ sc (eV sc X.env) C ex pins) B' tg h)
  (hif:(ifs=[]/\ft=fun _=>.ok true)∨∃c,ifs=[c]/\∀s₀ H₀ C ex pins B',ST (dg X N s₀ H₀ sc (eV sc X.env) C ex pins) B' WF c ft)
  (he:∀s₀ H₀ C ex pins B',SE (dg X N s₀ H₀ sc (eV sc X.env) C ex pins) B' WF elt fe)
  (hs:∀x,fN iter X.env x=pure x:=by intro _;rfl) :
  SE X B W (.ListComp elt [⟨tg,iter,ifs,0⟩] sc pos) (dW h ft fe nt caps fi):=by
 rw[Em];exact UJ c hc hnames hi hno ht (hif.imp (fun⟨a,b⟩=>⟨a,by rw[b];rfl⟩) fun⟨c,a,b⟩=>⟨c,a,fun _ _ _=>wD,fun s₀ H₀ C ex pins B'=>Eo (b s₀ H₀ C ex pins B')⟩) (fun s₀ H₀ C ex pins B' E W' _=>En (he s₀ H₀ C ex pins B')) (.inl fun _ _ _=>wD) hs
theorem KC{i:Nat}{y:Str}{py spos:Pos}{elt:ag}{ifs:List ag}{sc:Scope}{pos:Pos}{N:List Str}{nt:Nat}{caps:List Nat}{h:Tg}{ft:aD->Rs Bool}{fe:aD->Rs D}{fi:aD->Rs (List D)}
  (hN:X.N.Nodup) (hi':X.N[i]?=some y) (hx:Kg X.env.scope y)
  (c:ug X sc N nt caps) (hc:X.calm=true) (hnames:∀y∈sc.names,y.2=.local->sc.names.lookup y.1=some .local) (hi:SI X B W tg iter fi) (hno:nH h)
  (ht:∀s₀ H₀ C ex pins B',SG (dg X N s₀ H₀ sc (eV sc X.env) C ex pins) B' tg h)
  (hif:(ifs=[]/\ft=fun _=>.ok true)∨∃c,ifs=[c]/\∀s₀ H₀ C ex pins B',ST (dg X N s₀ H₀ sc (eV sc X.env) C ex pins) B' WF c ft)
  (he:∀s₀ H₀ C ex pins B',SE (dg X N s₀ H₀ sc (eV sc X.env) C ex pins) B' WF elt fe)
  (hs:∀x,fN iter X.env x=pure x) (hsw:dS (.ListComp elt [⟨tg,iter,ifs,0⟩] sc pos) (some (.Name y py)) spos.line X.env=pure true)
  (hf:X.fn y=true∨X.env.scope.names.lookup y=some .local) :
  SS X B W (.Assign [.Name y py] (.ListComp elt [⟨tg,iter,ifs,0⟩] sc pos) spos) (fun ρ=>oR (dW h ft fe nt caps fi ρ) ρ fun d=>.nx (ρ.set i (.fz d))):=by
 intro pins s σ H De I hw;obtain⟨ρ,G,sr,p⟩:=hw;dsimp only at p;rw[Em]at p;rw[exec_Assign_Name_used _ _ _ _ hsw];refine ah (si (ah ?_));show aw _ X.A (do let _ <- comprehension (.ListComp elt [⟨tg,iter,ifs,0⟩] sc pos) sc X.env _ (newList []) _ _ (some (assign (.Name y py) X.env))) _ _ s;refine ah (d6 (wF (QQ:=fun _ s'=>_) c hc hnames hi hno ht (hif.imp (fun⟨a,b⟩=>⟨a,by rw[b];rfl⟩) fun⟨c,a,b⟩=>⟨c,a,fun _ _ _=>wD,fun s₀ H₀ C ex pins B'=>Eo (b s₀ H₀ C ex pins B')⟩) (fun s₀ H₀ C ex pins B' E W' _=>En (he s₀ H₀ C ex pins B')) (.inl fun _ _ _=>wD) hs I sr ?_) (fun _ s' hq=>aT (aT hq)) fun _ _ e=>e);cases e:qM h (fun ρ=>jx (ft ρ)) (fun ρ=>jx (fe ρ)) nt caps fi ρ with
 |ok d =>
  rw[e]at p;intro D' C H' G' s5 fl x r _ ⟨m,hm⟩ fp IX;have I5:Inv X pins σ H' s5:=IX s5.heap (ef.refl C s5.heap);refine wpAny_assign_Name (Ce I5 hN hi' hx (show RelV (.ref D') (.ref D') from rfl) (fun s6 I6 ⟨a,hs6,ha⟩=>?_) hf);have hCa:C≠a:=by
   rcases ha with rfl|ha
   ·exact fp.2.1
   ·exact dE (fp.2.2.2.2.1 _ _ ha)
  refine⟨m,hm.sameBut hs6 hCa,fun h' hs'=>?_⟩;exact⟨_,H',I6.turned (t':=s6.toks) (fun b o hb e=>(hs'.2 b hb).trans e) fp.1 fp.2.1 fp.2.2.2.1 fp.2.2.2.2.1 fp.2.2.2.2.2,p _ _ G' ((sr.ext x).set r) x.gg⟩
 |ex c n=>rw[e]at p;exact fun H' G' x=>p σ H' G' (sr.ext x) x.gg
 |no=>rw[e]at p;exact p
end
section
variable{X:Cx}{K:ai}{B:Bs}{W:Wi}{σ:St}{G H:Hp}{ρ:aD}{a b:ag}{pos p:Pos}{fa fb:aD->Rs D}
noncomputable def agA(K:ai)(n:Nat):R2:=fun x y H Q=>∃d d',Rep K H d x/\Rep K H d' y/\gP d<=n/\gP d'<=n/\Q (.bl (oF d d')) H
noncomputable def agB(K:ai)(n:Nat):R2:=fun x y H Q=>∃d d',Rep K H d x/\Rep K H d' y/\gP d<=n/\gP d'<=n/\Q (.bl (!oF d d')) H
theorem UW{n:Nat}(hu:X.A.units + n < bu):rP X (fy .Eq) (agA X.K n):=by intro pins s σ H x y v u Q I rx ry ⟨d,d',r,r',hd,hd',q⟩;exact adA I hd hd' hu r r' rx ry X.prog X.w X.xe _ ⟨.bl _,H,I,rfl,q⟩
theorem Va{n:Nat}(hu:X.A.units + n < bu):rP X (fy .NotEq) (agB X.K n):=by intro pins s σ H x y v u Q I rx ry ⟨d,d',r,r',hd,hd',q⟩;exact Ua I hd hd' hu r r' rx ry X.prog X.w X.xe _ ⟨.bl _,H,I,rfl,q⟩
noncomputable def oE:D->D->Rs D:=fun x y=>if gP x<=8/\gP y<=8 then .ok (.bl (oF x y)) else .no
noncomputable def Bp:D->D->Rs D:=fun x y=>if gP x<=8/\gP y<=8 then .ok (.bl (!oF x y)) else .no
theorem Vb:RT K (agA K 8) oE:=by
 intro B W σ ρ G H x y v u Q s rx ry p;unfold oE at p;by_cases h:gP x<=8/\gP y<=8
 ·rw[if_pos h]at p;exact⟨x,y,rx.mono s.en.gh,ry.mono s.en.gh,h.1,h.2,Post.ok s p (cZ.mpr rfl)⟩
 ·rw[if_neg h]at p;exact p.elim
theorem Vc:RT K (agB K 8) Bp:=by
 intro B W σ ρ G H x y v u Q s rx ry p;unfold Bp at p;by_cases h:gP x<=8/\gP y<=8
 ·rw[if_pos h]at p;exact⟨x,y,rx.mono s.en.gh,ry.mono s.en.gh,h.1,h.2,Post.ok s p (cZ.mpr rfl)⟩
 ·rw[if_neg h]at p;exact p.elim
theorem cg{k:Nat}(hr:jt k X.A):X.A.units + 8 < bu:=by have:=hr.un;lia
theorem Hy(hu:X.A.units + 8 < bu)(ha:SE X B W a fa)(hb:SE X B W b fb):SE X B W (.Compare a [.Eq] [b] pos) (aQ oE fa fb):=Ef (UW hu) Vb ha hb (qC _)
theorem abT(hu:X.A.units + 8 < bu)(ha:SE X B W a fa)(hb:SE X B W b fb):SE X B W (.Compare a [.NotEq] [b] pos) (aQ Bp fa fb):=Ef (Va hu) Vc ha hb (qC _)
theorem qd(hu:X.A.units + 8 < bu)(ha:SE X B W a fa)(hb:SE X B W b fb):ST X B W (.Compare a [.Eq] [b] pos) (fT (aQ oE fa fb)):=tZ (UW hu) Vb ha hb (qC _)
theorem Hz(hu:X.A.units + 8 < bu)(ha:SE X B W a fa)(hb:SE X B W b fb):ST X B W (.Compare a [.NotEq] [b] pos) (fT (aQ Bp fa fb)):=tZ (Va hu) Vc ha hb (qC _)
noncomputable def gLt:=gI0 fun i j=>D.bl (decide (i < j))
noncomputable def gLe:=gI0 fun i j=>D.bl (decide (i<=j))
noncomputable def QW:=gI0 fun i j=>D.bl (decide (j < i))
noncomputable def gGe:=gI0 fun i j=>D.bl (decide (j<=i))
theorem agC(ha:SE X B W a fa)(hb:SE X B W b fb):SE X B W (.Compare a [.Gt] [b] pos) (aQ QW fa fb):=Ef abK (wj fun _ _ _=>cZ.mpr rfl) ha hb (qC _)
theorem Vd(ha:SE X B W a fa)(hb:SE X B W b fb):ST X B W (.Compare a [.Lt] [b] pos) (fT (aQ gLt fa fb)):=tZ aga (wj fun _ _ _=>cZ.mpr rfl) ha hb (qC _)
theorem Ot(ha:SE X B W a fa)(hb:SE X B W b fb):ST X B W (.Compare a [.Gt] [b] pos) (fT (aQ QW fa fb)):=tZ abK (wj fun _ _ _=>cZ.mpr rfl) ha hb (qC _)
theorem agD(ha:SE X B W a fa)(hb:SE X B W b fb):ST X B W (.Compare a [.GtE] [b] pos) (fT (aQ gGe fa fb)):=tZ agb (wj fun _ _ _=>cZ.mpr rfl) ha hb (qC _)
inductive Ty where
 |int|bool|str|tuple|list|dict
noncomputable def Ty.nm:Ty->String
 | .int=>"int"|.bool=>"bool"|.str=>"str"|.tuple=>"tuple"|.list=>"list"|.dict=>"dict"
noncomputable def isD:D->Ty->Bool
 | .int _,.int=>true
 | .bl _,.bool=>true
 | .bl _,.int=>true
 | .str _,.str=>true
 | .tup _,.tuple=>true
 | .lst _,.list=>true
 |_,_=>false
noncomputable def tyD:D->String
 | .non=>"NoneType"|.bl _=>"bool"|.int _=>"int"|.str _=>"str"|.tup _=>"tuple"|.lst _=>"list"|.GF _ _=>""|.GJ _ _=>""|.fn _=>""|.obj _ _ _=>""
noncomputable def isX:D->Bool
 | .GF _ _=>true
 | .GJ _ _=>true
 | .fn _=>true
 | .obj _ _ _=>true
 |_=>false
theorem agF(d:D)(t:Ty)(hx:isX d=false):PySem.W.kitOne K (.type (tyD d)) (.type t.nm)=some (isD d t):=by
 cases d <;> first|(cases hx;done)|(cases t <;> kernel_rfl)
theorem adU{pins:List (ae×Obj)}{s:af}{A:ba}{E Q:aa->af->Prop}{d:D}{v:V}{u:aa}{t:Ty}(I:Inv X pins σ H s)(hx:isX d=false)(r:Rep X.K H d v)(rv:RelV v u)(h:∀tk,Q (.bool (isD d t)) { s with toks:=tk }) :
  aw (ay X.prog X.w) A (call (.builtin "isinstance") [u,.type t.nm]) Q E s:=by
 have e:=agF (K:=X.K) d t hx;cases d with
 |non=>rw[pA.mp r]at rv;cases rv;exact mh PySem.W.kitx_none I.GR True.intro e (fun z=>nomatch z) h
 |bl y=>rw[cZ.mp r]at rv;cases rv;exact mh PySem.W.kitx_bool I.GR True.intro e (fun z=>nomatch z) h
 |int i=>rw[aX.mp r]at rv;obtain⟨t,rfl⟩:=rv;exact mh PySem.W.kitx_int I.GR True.intro e (fun z=>nomatch z) h
 |str i=>rw[rR.mp r]at rv;obtain⟨t,rfl⟩:=rv;exact mh PySem.W.kitx_str I.GR True.intro e (fun z=>nomatch z) h
 |tup ds =>
  obtain⟨a,vs,rfl,q,_⟩:=bN.mp r;cases rv;obtain⟨_,_,⟨o,h1,h2,_⟩,_⟩:=I.tuple q;exact mh PySem.W.kitx_tuple I.GR ⟨o,h1,h2⟩ e (fun z=>nomatch z) h
 |lst ds =>
  obtain⟨a,vs,rfl,q,_⟩:=bJ.mp r;cases rv;obtain⟨_,_,⟨o,n,h1,h2,_⟩,_⟩:=I.list q;exact mh PySem.W.kitx_list I.GR ⟨o,h1,h2⟩ e (fun z=>nomatch z) h
 |GF c n=>cases hx
 |GJ c n=>cases hx
 |fn c=>cases hx
 |obj c n ds=>cases hx
noncomputable def aiL(K:ai)(t:Ty):List V->Hp->VK->Prop:=fun xs H Q=>∃v d,xs=[v,.ty t.nm]/\isX d=false/\Rep K H d v/\Q (.bl (isD d t)) H
theorem Ve{t:Ty}:gZ X (.builtin "isinstance") (aiL X.K t):=by
 intro pins s σ H xs us Q I r ⟨v,d,e,hx,rd,q⟩;subst e;cases r with
 |cons r1 r2 =>
  cases r2 with
  |cons r3 r4 =>
   cases r4;cases r3;exact adU I hx rd r1 fun tk=>⟨.bl _,H,I.tok tk,rfl,q⟩
noncomputable def gIs(t:Ty):D->Rs D:=fun d=>if isX d=false then .ok (.bl (isD d t)) else .no
theorem agG{t:Ty}{x:Str}{e:ag}{p1 p2:Pos}{f:aD->Rs D}(hm:X.mg "isinstance"=none) (hmt:X.mg x=none) (he:SE X B W e f) (hv:il x=some (.type t.nm)) (hg:Gl X "isinstance":=by rfl) (hgx:Gl X x:=by rfl)
  (hst:bb [e,.Name x p2] X.env=[(false,bj e X.env),(false,bj (.Name x p2) X.env)]:=by rfl) (hst2:bb [.Name x p2] X.env=[(false,bj (.Name x p2) X.env)]:=by rfl) (hn:x≠"__name__":=by decide) (hd:qx x:=by decide) :
  SE X B W (.Call (.Name "isinstance" p1) [e,.Name x p2] [] pos) (fun ρ=>(f ρ).bind (gIs t)):=by
 refine PE.imp (qF (Ve (t:=t)) hg hm PyProof.Rows.boot_isinstance (gj he (gj (Zm (v:=.ty t.nm) hgx hmt hv rfl hn hd) lF (by rw[hst2];rfl)) (by rw[hst,hst2])) (by decide) (by decide) (by rw[hst,hst2]) (by rw[hst2];rfl)) fun σ H Q h=>?_;obtain⟨ρ,G,s,p⟩:=rT (k:=fun _=>gIs t) h;refine⟨ρ,G,s,p.mono fun v H1 ⟨ρ1,G1,d,s1,r,q⟩=>?_⟩;unfold gIs at q;by_cases hx:isX d=false
 ·rw[if_pos hx]at q;exact⟨v,d,rfl,hx,r.mono s1.en.gh,Post.ok s1 q (cZ.mpr rfl)⟩
 ·rw[if_neg hx]at q;exact q.elim
noncomputable def agH:List D->Option (List Bool)
 | []=>some []
 | .bl b::ds=>(agH ds).map (b::·)
 |_=>none
end
section
variable{X:Cx}{pins:List (ae×Obj)}{σ:St}{H:Hp}{s:af}{ea:ae}{c:Str}{n:Int}{tr:Bool}
end
section
variable{X:Cx}{pins:List (ae×Obj)}{σ:St}{H:Hp}{s:af}{ea:ae}
end
end Vl
namespace Vl
open PySem PySem.Spec PySem.Calls PySem.W L2
section
variable{K:ai}
end
section
variable{X:Cx}{B:Bs}{W:Wi}
end
noncomputable def qw:aD->Ou:=fun ρ=>.nx ρ
noncomputable def bC(g k:aD->Ou):aD->Ou:=fun ρ=>Uk (g ρ) k
noncomputable def dh(f:aD->Rs D):aD->Ou:=fun ρ=>oR (f ρ) ρ .rt
noncomputable def KD(f:aD->Rs D):aD->Ou:=fun ρ=>oR (f ρ) ρ fun _=>.nx ρ
noncomputable def oY(c:aD->Rs Bool)(a b:aD->Ou):aD->Ou:=fun ρ=>oR (c ρ) ρ fun x=>if x=true then a ρ else b ρ
noncomputable def lM(f:aD->Rs D)(h:Tg):aD->Ou:=fun ρ=>oR (f ρ) ρ fun d=>oO (h d ρ)
noncomputable def iB(i:Nat)(f:aD->Rs D):aD->Ou:=fun ρ=>oR (f ρ) ρ fun d=>.nx (ρ.set i (.fz d))
noncomputable def QX(x:Str)(fs:aD->Rs (List D)):aD->Ou:=fun ρ=>oR (fs ρ) ρ fun ds=>if ds.length<=1000 then .ex x 0 ρ else .no
noncomputable def lG(g:aD->Ou):aD->Ou:=fun ρ=>Ul (g ρ)
noncomputable def yW(f:aD->Rs D):aD->Rs D:=fun ρ=>(f ρ).bind ZW
noncomputable def fB(f:aD->Rs D)(g:D->Rs D):aD->Rs D:=fun ρ=>(f ρ).bind g
noncomputable def fL(f:aD->Rs D)(g:D->Rs (List D)):aD->Rs (List D):=fun ρ=>(f ρ).bind g
section
variable{X:Cx}{B:Bs}{W:Wi}
theorem cJ:xq X B W [] qw:=adJ
theorem aG{st:bg}{rest:List bg}{g k:aD->Ou}(h1:SS X B W st g)(h2:xq X B W rest k):xq X B W (st::rest) (bC g k):=aad h1 h2
theorem aO{st:bg}{g:aD->Ou}(h1:SS X B W st g):xq X B W [st] g:=adK h1
theorem bM{e:ag}{pos}{f:aD->Rs D}(h:SE X B W e f):SS X B W (.Return (some e) pos) (dh f):=adL h
theorem adW{e:ag}{pos:Pos}{f:aD->Rs D}(h:SE X B W e f)(hs:dS e none pos.line X.env=pure false:=by rfl):SS X B W (.Expr e pos) (KD f):=aae h hs
theorem dI{c:ag}{a b:List bg}{pos:Pos}{fc:aD->Rs Bool}{ga gb:aD->Ou}(hc:ST X B W c fc)(ha:xq X B W a ga)(hb:xq X B W b gb):SS X B W (.If c a b pos) (oY fc ga gb):=agr hc ha hb
theorem gB{tg e:ag}{pos:Pos}{f:aD->Rs D}{h:Tg}(he:SE X B W e f)(hg:SG X B tg h)(hs:ny [tg] e pos.line X.env=pure false:=by rfl)(hw:nz [tg] e X.env=pure none:=by rfl)
  (h1:(fF [tg] X.env).map (·.2)=[assign tg X.env]:=by rfl):SS X B W (.Assign [tg] e pos) (lM f h):=adM he hg hs hw h1
theorem dB(i:Nat){x:Str}{e:ag}{pos pos':Pos}{f:aD->Rs D}(hN:X.N.Nodup)(he:SE X B W e f)(hi:X.N[i]?=some x:=by rfl)(hx:Kg X.env.scope x:=by first|exact Or.inl rfl|exact Or.inr rfl)(hs:dS e (some (.Name x pos')) pos.line X.env=pure false:=by rfl)(hf:X.fn x=true∨X.env.scope.names.lookup x=some .local:=by first|exact .inl rfl|exact .inr rfl|assumption) :
  SS X B W (.Assign [.Name x pos'] e pos) (iB i f):=adN hN hi hx he hs hf
theorem jd{st:bg}{g:aD->Ou}(h:SS X.Zo B WF st g):SS X B W st (lG g):=adP h
theorem Er{a:ag}{pos:Pos}{fa:aD->Rs D}(ha:SE X B W a fa):SE X B W (.UnaryOp .USub a pos) (yW fa):=adF ha
theorem rg(i:Nat){x:Str}{pos:Pos}(hN:X.N.Nodup)(hi:X.N[i]?=some x:=by rfl)(hx:Kg X.env.scope x:=by first|exact Or.inl rfl|exact Or.inr rfl)(hf:X.fn x=true∨X.env.scope.names.lookup x=some .local:=by first|exact .inl rfl|exact .inr rfl|assumption):SG X B (.Name x pos) (aM i) :=
 aaf hN hi hx hf
theorem abU{t:Ty}{x:Str}{e:ag}{p1 p2 pos:Pos}{f:aD->Rs D}(hm:X.mg "isinstance"=none) (hmt:X.mg x=none) (he:SE X B W e f) (hv:il x=some (.type t.nm)) (hg:Gl X "isinstance":=by rfl) (hgx:Gl X x:=by rfl)
  (hst:bb [e,.Name x p2] X.env=[(false,bj e X.env),(false,bj (.Name x p2) X.env)]:=by rfl) (hst2:bb [.Name x p2] X.env=[(false,bj (.Name x p2) X.env)]:=by rfl) (hn:x≠"__name__":=by decide) (hd:qx x:=by decide) :
  SE X B W (.Call (.Name "isinstance" p1) [e,.Name x p2] [] pos) (fB f (gIs t)):=agG hm hmt he hv hg hgx hst hst2 hn hd
theorem yc{tg iter:ag}{f:aD->Rs D}(hi:SE X B W iter f):SI X B W tg iter (fL f Zf):=aan hi
theorem Vf{tg iter:ag}{f:aD->Rs D}(hi:SE X B W iter f):SI X B W tg iter (fL f asT):=adS hi
theorem cP{e e':ag}{p pos:Pos}{fa fb:aD->Rs D}(hm:X.mg "divmod"=none) (ha:SE X B W e fa) (hb:SE X B W e' fb) (hg:Gl X "divmod":=by rfl) (he:bb [e,e'] X.env=[(false,bj e X.env),(false,bj e' X.env)]:=by rfl) (he':bb [e'] X.env=[(false,bj e' X.env)]:=by rfl) :
  SE X B W (.Call (.Name "divmod" p) [e,e'] [] pos) (fA (aj fa (aj fb aK)) Cv) :=
 qH Ej agq hg hm rfl (ak ha (ak hb aH he') (by rw[he,he'])) (by decide) (by decide) (by rw[he,he']) (by rw[he'];rfl)
end
noncomputable def iG(P:aS)(w:az)(K:ai)(mg:Str->Option aa)(base:aE)(x:Str)(k n:Nat)(v:List D->Rs D):Prop :=
 ∃f fd ps,qD P w K mg base (wC P w K) k f fd ps (spV K n v)/\mg x=some (.ref f)/\g9 K (.ref f)=true/\Binds K fd ps []
theorem adX{P:aS}{w:az}{K:ai}{mg:Str->Option aa}{base:aE}{x:Str}{st:bg}{f:ae}{fd:df}{N ps:List Str}{k:Nat}{g:aD->Ou}(F:Fun K x x st f fd)(hm:mg x=some (.ref f))(S:bF N ps (aF st))
  (hbi:∀(kV doc pm:aa) (an:Option ae) (cdv ct:aa) (us:List aa),us.length=ps.length->bindArgs (iq x x (gO st) (cO st) (aF st) .none kV doc pm an cdv ct) ⟨us,[]⟩=pure (ps.zip us))
  (hb:∀(cdv:aa) (A:ba) (outer:List Env) (s:af) (H:Hp) (E:XK) (B:Bs),jt k (A.deeper (kX x (aF st) s.heap.objs.size f cdv)) ->
   qK (qt (wC P w K) P w K mg base N x (aF st) f cdv A outer s H E) (fun c n _ H'=>E (Bo c n) none H') ->
   xq (qt (wC P w K) P w K mg base N x (aF st) f cdv A outer s H E) B (fun c n _ H'=>E (Bo c n) none H') (cO st) g) :
  iG P w K mg base x (k + 1) ps.length (fun ds=>fQ (g (aU N ds))) :=
 ⟨f,fd,ps,agx F S fun cdv A outer s H E B hr=>hb cdv A outer s H E B hr (qL jk rfl),hm,F.kp,F.binds hbi⟩
section
variable{X:Cx}{B:Bs}{W:Wi}
theorem bw{x:Str}{p pos:Pos}{e:ag}{es:List ag}{fs:aD->Rs (List D)}{k n kr:Nat}{g:List D->Rs D}(O:iG X.prog X.w X.K X.mg X.base x k n g)(hr:jt kr X.A)(hx:qK X W)(ha:SA X B W (e::es) fs)(hg:Gl X x:=by rfl)(hdb:qx x:=by decide)
  (he:bb (e::es) X.env=(false,bj e X.env)::bb es X.env:=by rfl) (hpl:(cS pos (bb es X.env)).any (·.1)=false:=by rfl) (hkr:k<=kr:=by decide):SE X B W (.Call (.Name x p) (e::es) [] pos) (fA fs (bf n g)):=by
 obtain⟨f,fd,ps,F,hm,hk,hb⟩:=O;exact aal F (hr.mono hkr) hg hm hk hb hx ha hdb he hpl
end
section
variable{X:Cx}{B:Bs}{W:Wi}
end
end Vl
namespace Vl
open PySem PySem.Spec PySem.W L2
section
variable{X:Cx}{B:Bs}{W:Wi}{σ:L2.St}{H:Hp}{K:ai}
end
end Vl
namespace Vl
open PySem PySem.Spec PySem.Calls PySem.W L2
noncomputable def abV(S sc:Scope)(NX N:List Str)(nt:Nat)(caps:List Nat):Bool :=
 decide (sc.kind=.function) && sc.names.all (fun y=>y.2 != .cell) && sc.names.all (fun y=>y.2 != .free || S.names.lookup y.1 == some .cell || S.names.lookup y.1 == some .free) && decide (N.length=nt + caps.length) &&
  (bS caps.length).all fun j=>match caps[j]?,N[nt + j]? with|some i,some x=>NX[i]? == some x && sc.names.lookup x == some .free|_,_=>true
theorem pG{X:Cx}{sc:Scope}{N:List Str}{nt:Nat}{caps:List Nat}(S:Scope)(NX:List Str)(h:abV S sc NX N nt caps=true)(hS:X.env.scope=S:=by rfl)(hX:X.N=NX:=by rfl):ug X sc N nt caps:=by
 unfold abV at h;simp only[kT,decide_eq_true_eq,ml,bne_iff_ne,j_,beq_iff_eq,ne_eq]at h;obtain⟨⟨⟨⟨h1,h2⟩,h3⟩,h4⟩,h5⟩:=h;refine⟨h1,fun y hy=>h2 y hy,fun y hy hf=>?_,h4,fun j i x e1 e2=>?_⟩
 ·have:=h3 y hy;unfold Env.kindOf;rw[hS];rcases this with (h|h)|h
  ·exact absurd hf h
  ·exact .inl h
  ·exact .inr h
 ·have:=h5 j (by rw[fq];exact(dm.mp e1).1);rw[e1,e2]at this;simp only[kT,beq_iff_eq]at this;rw[hX];exact this
theorem jU{i:Nat}:nH (aM i):=by
 intro d ρ ρ' no e j ds q;unfold aM at e;cases e;by_cases c:i=j
 ·subst c;have hl:i < ρ.length:=by have:=(dm.mp q).1;simpa using this
  rw[dy hl]at q;cases q;exact fun w=>by cases w
 ·rw[cK c]at q;exact no j ds q
theorem aat{X:Cx}{B:Bs}{W:Wi}{tg iter:ag}{elt:ag}{sc:Scope}{pos:Pos}{N:List Str}{nt:Nat}{caps:List Nat}{h:Tg}{fe:aD->Rs D}{fi:aD->Rs (List D)}
  (c:ug X sc N nt caps) (hc:X.calm=true) (hnames:sc.names.all (fun y=>y.2 != .local || sc.names.lookup y.1 == some .local)=true) (hi:SI X B W tg iter fi) (hno:nH h)
  (ht:∀s₀ H₀ C ex pins B',SG (dg X N s₀ H₀ sc (eV sc X.env) C ex pins) B' tg h)
  (he:∀s₀ H₀ C ex pins B',SE (dg X N s₀ H₀ sc (eV sc X.env) C ex pins) B' WF elt fe)
  (hs:∀x,fN iter X.env x=pure x:=by intro _;rfl) :
  SE X B W (.ListComp elt [⟨tg,iter,[],0⟩] sc pos) (dW h (fun _=>.ok true) fe nt caps fi) :=
 Oq c hc (fun y hy hl=>by
  have:=ml.mp hnames y hy;simp only[j_,bne_iff_ne,beq_iff_eq,ne_eq]at this;exact this.elim (fun z=>absurd hl z) id) hi hno ht (.inl ⟨rfl,rfl⟩) he hs
theorem wG{X:Cx}{B:Bs}{W:Wi}{tg iter:ag}{elt RW:ag}{sc:Scope}{pos:Pos}{N:List Str}{nt:Nat}{caps:List Nat}{h:Tg}{ft:aD->Rs Bool}{fe:aD->Rs D}{fi:aD->Rs (List D)}
  (c:ug X sc N nt caps) (hc:X.calm=true) (hnames:sc.names.all (fun y=>y.2 != .local || sc.names.lookup y.1 == some .local)=true) (hi:SI X B W tg iter fi) (hno:nH h)
  (ht:∀s₀ H₀ C ex pins B',SG (dg X N s₀ H₀ sc (eV sc X.env) C ex pins) B' tg h)
  (hif:∀s₀ H₀ C ex pins B',ST (dg X N s₀ H₀ sc (eV sc X.env) C ex pins) B' WF RW ft)
  (he:∀s₀ H₀ C ex pins B',SE (dg X N s₀ H₀ sc (eV sc X.env) C ex pins) B' WF elt fe)
  (hs:∀x,fN iter X.env x=pure x:=by intro _;rfl) :
  SE X B W (.ListComp elt [⟨tg,iter,[RW],0⟩] sc pos) (dW h ft fe nt caps fi) :=
 Oq c hc (fun y hy hl=>by
  have:=ml.mp hnames y hy;simp only[j_,bne_iff_ne,beq_iff_eq,ne_eq]at this;exact this.elim (fun z=>absurd hl z) id) hi hno ht (.inr ⟨RW,rfl,hif⟩) he hs
noncomputable def adY(i j:Nat)(fs:aD->Rs (List D)):aD->Ou:=fun ρ=>oR (fs ρ) ρ fun ds=>match ds with
 | [d,e]=>.nx ((ρ.set i (.fz d)).set j (.fz e))
 |_=>.no
theorem HB{K:c_}(C:ae):kitOne K (.ref C) (.ref C)=some true:=by unfold kitOne;rw[if_pos (by simp)]
theorem adZ{l:l_}{k:Nat}{q:aS}{loose:List Str}{XP:(Str->Option aa)->aE->Prop}{YP:az->aE->Prop}{d:DefRec}{K:Params->c_}{v:List D->Rs D}(hn:l.most=some 63)(hdf:d.params.defaults=[])(hr:jt k j6)
  (hY:∀(w:az) (h:aE),YP w h->(K w.params).In h) (aiN:∀w:az,adx (K w.params)=[]) (hv:∀ns:List Int,ns.length<=63->v [.lst (ns.map D.int)]=.ok (.bl true))
  (F:∀(w:az) (mg:Str->Option aa) (fa:ae) (h:aE),(K w.params).In h->h.Ns cw mg->mg d.name=some (.ref fa) ->
   ∃fd:df,(∀(s:af) (u:aa),iX s fd ⟨[u],[]⟩ [("script",u)])/\∀base:aE,(K w.params).In base->base.Ns cw mg->qD l.prog w (K w.params) mg base (wC l.prog w (K w.params)) k fa fd ["script"] (spV (K w.params) 1 v)) :
  WalkO q loose XP YP l.row.toRowW d [] (fun f vs=>PySem.call f vs):=by
 refine L2.ZK (n:=63) (k:=k) (x:="script") (CX:=fun w=>wC l.prog w (K w.params)) (sp:=fun w=>spV (K w.params) 1 v) hn (by decide) hdf hr hY F (fun w H a ns hl _ hS=>?_) fun w H s e s' h=>?_
 ·refine⟨rfl,H,[.lst (ns.map D.int)],⟨.refl (.refl _) (fun _ _ e=>e),fun x m=>by rw[aiN]at m;cases m⟩,bD.one (bJ.mpr ⟨a,_,rfl,hS,wg ns⟩),?_⟩;rw[hv ns hl];exact fun u H' G' _ r=>cZ.mp r
 ·obtain⟨_,_,_,_,_,_,_,_,_,_,z⟩:=h;exact z.elim
section
variable{ρ ρ1:aD}{d x y z:D}{f fa fb:aD->Rs D}{g k a b:aD->Ou}{r:Ou}{ds:List D}{fs:aD->Rs (List D)}{c c1 c2:aD->Rs Bool}{t u:Bool}{i j:Nat}
theorem aJ(h:g ρ=.nx ρ1)(h2:k ρ1=r):bC g k ρ=r:=by unfold bC;rw[h];exact h2
theorem qN(h:g ρ=.rt d):bC g k ρ=.rt d:=by unfold bC;rw[h];rfl
theorem bG:fC d ρ=.ok d:=rfl
theorem aC(h:ρ[i]?=some (.fz d)):aq i ρ=.ok d:=by unfold aq;rw[h]
theorem aN{o:D->D->Rs D}{r:Rs D}(h1:fa ρ=.ok x)(h2:fb ρ=.ok y)(h3:o x y=r):aQ o fa fb ρ=r:=by unfold aQ;rw[h1];show(fb ρ).bind _=_;rw[h2];exact h3
theorem Vg{n:Int}(h1:fa ρ=.ok (.int n)):yW fa ρ=.ok (.int (-n)):=by unfold yW;rw[h1];rfl
theorem aL:aK ρ=.ok []:=rfl
theorem ao(h1:fa ρ=.ok x)(h2:fs ρ=.ok ds):aj fa fs ρ=.ok (x::ds):=by unfold aj;rw[h1];show(fs ρ).bind _=_;rw[h2];rfl
theorem cG{o:List D->Rs D}{r:Rs D}(h1:fs ρ=.ok ds)(h2:o ds=r):fA fs o ρ=r:=by unfold fA;rw[h1];exact h2
theorem v_b{o:D->Rs D}{r:Rs D}(h1:fa ρ=.ok x)(h2:o x=r):fB fa o ρ=r:=by unfold fB;rw[h1];exact h2
theorem bL{n:Nat}{v:List D->Rs D}{r:Rs D}(hl:ds.length=n)(h:v ds=r):bf n v ds=r:=by unfold bf;rw[if_pos hl];exact h
theorem xr(hl:ds.length<=1000):cU ds=.ok (.tup ds):=by unfold cU;rw[if_pos hl]
theorem HD(hl:ds.length<=1000):uV ds=.ok (.lst ds):=by unfold uV;rw[if_pos hl]
theorem je(h:fa ρ=.ok (.bl t)):fT fa ρ=.ok t:=by unfold fT;rw[h];rfl
theorem yX(h:c ρ=.ok t):tY c ρ=.ok (!t):=by unfold tY;rw[h];rfl
theorem Vh(h:c1 ρ=.ok true):RV c1 c2 ρ=.ok true:=by unfold RV;rw[h];rfl
theorem Es(h:c1 ρ=.ok false)(h2:c2 ρ=.ok t):RV c1 c2 ρ=.ok t:=by unfold RV;rw[h];exact h2
theorem rY(h:c1 ρ=.ok false):sW c1 c2 ρ=.ok false:=by unfold sW;rw[h];rfl
theorem rZ(h:c1 ρ=.ok true)(h2:c2 ρ=.ok t):sW c1 c2 ρ=.ok t:=by unfold sW;rw[h];exact h2
theorem eE(h:c ρ=.ok true)(h2:a ρ=r):oY c a b ρ=r:=by unfold oY;rw[h];exact h2
theorem bQ(h:c ρ=.ok false)(h2:b ρ=r):oY c a b ρ=r:=by unfold oY;rw[h];exact h2
theorem ig(h:fa ρ=.ok x):iB i fa ρ=.nx (ρ.set i (.fz x)):=by unfold iB;rw[h];rfl
theorem eF(h:fa ρ=.ok x):dh fa ρ=.rt x:=by unfold dh;rw[h];rfl
theorem agI(h:fa ρ=.ok x):KD fa ρ=.nx ρ:=by unfold KD;rw[h];rfl
theorem jN{h:Tg}(h1:fa ρ=.ok x)(h2:h x ρ=some ρ1):lM fa h ρ=.nx ρ1:=by unfold lM;rw[h1];show oO (h x ρ)=_;rw[h2];rfl
theorem gk:qw ρ=.nx ρ:=rfl
theorem ni(h:g ρ=.nx ρ1):lG g ρ=.nx ρ1:=by unfold lG;rw[h];rfl
theorem mG{h:Tg}{n:Int}{N:Nat}(h1:fa ρ=.ok (.int n))(hb:n < 2 ^ 62)(hN:n=(N:Int))(h2:dw h g ((bS N).map fun(i:Nat)=>.int i) ρ=r):jj h g fa ρ=r:=by
 have hc:-(2 ^ 62)<=n/\n < 2 ^ 62:=⟨by subst hN;lia,hb⟩
 unfold jj;rw[h1];simp only[oR];rw[if_pos hc,hN,mo];exact h2
theorem uo{h:Tg}(h1:fa ρ=.ok (.lst ds))(h2:dw h g ds ρ=r):tM h g fa ρ=r:=by unfold tM;rw[h1];exact h2
theorem KH{h:Tg}(h1:fa ρ=.ok (.tup ds))(h2:dw h g ds ρ=r):Cw h g fa ρ=r:=by unfold Cw;rw[h1];exact h2
theorem HF{h:Tg}(P:aD->Prop):∀{ds:List D}{ρ:aD},P ρ->(∀d∈ds,∀ρ,P ρ->∃ρ1 ρ',h d ρ=some ρ1/\g ρ1=.nx ρ'/\P ρ')->∃ρ',dw h g ds ρ=.nx ρ'/\P ρ'
 | [],ρ,p,_=>⟨ρ,rfl,p⟩
 |d::ds,ρ,p,st=>by obtain⟨ρ1,ρ2,e1,e2,p2⟩:=st d (by simp) ρ p;obtain⟨ρ',e,p'⟩:=HF (ds:=ds) P p2 fun d' hd=>st d' (by simp[hd]);refine⟨ρ',?_,p'⟩;simp only[dw,e1,e2];exact e
theorem Vi{h:Tg}{ft:aD->Rs Bool}{fe:aD->Rs D}{nt:Nat}{caps:List Nat}{fi:aD->Rs (List D)}{ys:List D}(h1:fi ρ=.ok ds)(h2:eZ h ft fe ds (dY nt caps ρ)=.ok ys)(hl:ys.length<=1000000):dW h ft fe nt caps fi ρ=.ok (.lst ys):=by unfold dW;rw[h1];show jx ((eZ h ft fe ds (dY nt caps ρ)).bind _)=_;rw[h2];show jx (if ys.length<=1000000 then _ else _)=_;rw[if_pos hl];rfl
theorem v_l{o:D->Rs (List D)}(h1:fa ρ=.ok x)(h2:o x=.ok ds):fL fa o ρ=.ok ds:=by unfold fL;rw[h1];exact h2
variable{m n:Int}
theorem abW(h:Ko m n):dZ (.int m) (.int n)=.ok (.int (m * n)):=by simp[dZ,gI,h]
theorem qe(h:0 < n):iD (.int m) (.int n)=.ok (.int (m % n)):=by simp[iD,gI,h]
theorem HJ(h:CDB m n):uf (.int m) (.int n)=.ok (.int (m / n)):=by simp[uf,gI,h]
theorem abX(h:Td m n):qu (.int m) (.int n)=.ok (.int (m ^ n.toNat)):=by simp[qu,gI,h]
theorem cC:bH (.int m) (.int n)=.ok (.int (m + n)):=rfl
theorem QZ{a b:List D}(h:a.length + b.length<=1000000):bH (.lst a) (.lst b)=.ok (.lst (a++b)):=by simp only[bH];rw[if_pos h]
theorem jO:Vl.jQ (.int m) (.int n)=.ok (.int (m - n)):=rfl
theorem uX(h:CDB m n):Cv [.int m,.int n]=.ok (.tup [.int (m / n),.int (m % n)]):=by simp[Cv,h]
theorem KJ:gLt (.int m) (.int n)=.ok (.bl (decide (m < n))):=rfl
theorem aea:gLe (.int m) (.int n)=.ok (.bl (decide (m<=n))):=rfl
theorem Et:QW (.int m) (.int n)=.ok (.bl (decide (n < m))):=rfl
theorem aeb:gGe (.int m) (.int n)=.ok (.bl (decide (n<=m))):=rfl
theorem nq:oE (.int m) (.int n)=.ok (.bl (decide (m=n))):=by simp[oE,gP,oF];rfl
theorem Vj:Bp (.int m) (.int n)=.ok (.bl (!decide (m=n))):=by simp[Bp,gP,oF];rfl
theorem aiO(h1:gP x<=8)(h2:gP y<=8):oE x y=.ok (.bl (oF x y)):=by unfold oE;rw[if_pos ⟨h1,h2⟩]
theorem aec(h1:gP x<=8)(h2:gP y<=8):Bp x y=.ok (.bl (!oF x y)):=by unfold Bp;rw[if_pos ⟨h1,h2⟩]
theorem aed(h:xO ds m=some d):cN (.tup ds) (.int m)=.ok d:=by simp[cN,h]
theorem uY(h:xO ds m=some d):cN (.lst ds) (.int m)=.ok d:=by simp[cN,h]
theorem cdb(h:0 < n)(h2:n < 2 ^ 200):CDB m n:=⟨h,h2⟩
end
end Vl
namespace Tb
open PySem
noncomputable def it:Nat->Nat->Nat
 | 0,x=>x
 |m + 1,x=>5 * it m x + 1
theorem Vk(m n x:Nat):it (m + n) x=it m (it n x):=by
 induction m with
 |zero=>simp[it]
 |succ m ih=>rw[Nat.succ_add];simp only[it];rw[ih]
theorem aee(k:Nat):∃w,w % 2=1/\∀y,it (2 ^ k) y=y + 2 ^ k * w * (4 * y + 1):=by
 induction k with
 |zero=>exact⟨1,rfl,fun y=>by simp[it];lia⟩
 |succ k ih =>
  obtain⟨w,hw,h⟩:=ih;refine⟨w * (1 + 2 ^ (k + 1) * w),?_,fun y=>?_⟩
  ·have e:2 ^ (k + 1)=2 * 2 ^ k:=by rw[k7];lia
   rw[e,Nat.mul_add,Nat.mul_one,tJ];have:w * (2 * 2 ^ k * w) % 2=0:=by
    have:w * (2 * 2 ^ k * w)=2 * (w * 2 ^ k * w):=by grind
    rw[this];exact Nat.mul_mod_right _ _
   lia
  ·have e:2 ^ (k + 1)=2 ^ k + 2 ^ k:=by rw[k7];lia
   rw[e,Vk,h,h]
   grind
theorem agJ(k:Nat):∀x e:Nat,∃m,m < 2 ^ k/\it m x % 2 ^ k=e % 2 ^ k:=by
 induction k with
 |zero=>exact fun x e=>⟨0,by decide,by simp[Nat.mod_one]⟩
 |succ k ih =>
  intro x e;obtain⟨m,hm,he⟩:=ih x e;obtain⟨w,hw,hp⟩:=aee k;have e2:2 ^ (k + 1)=2 ^ k * 2:=k7 ..;by_cases c:it m x % 2 ^ (k + 1)=e % 2 ^ (k + 1)
  ·exact⟨m,by rw[e2];lia,c⟩
  ·refine⟨2 ^ k + m,by rw[e2];lia,?_⟩;rw[Vk,hp];have pos:0 < 2 ^ k:=Nat.pos_of_ne_zero (by simp);generalize it m x=a at he c;obtain⟨q,hq⟩:∃q,w * (4 * a + 1)=2 * q + 1:=by
    refine⟨w * (4 * a + 1) / 2,?_⟩;have:w * (4 * a + 1) % 2=1:=by
     rw[tP];have:(4 * a + 1) % 2=1:=by lia
     rw[hw,this]
    lia
   have hq':2 ^ k * w * (4 * a + 1)=2 ^ k * 2 * q + 2 ^ k:=by rw[pM,hq];grind
   rw[hq',e2];rw[e2]at c;generalize 2 ^ k=M at *;have h1:(a + (M * 2 * q + M)) % (M * 2)=(a + M) % (M * 2):=by
    have:a + (M * 2 * q + M)=a + M + M * 2 * q:=by lia
    rw[this,pS]
   rw[h1];have a1:=Nat.mod_add_div a (M * 2);have b1:=Nat.mod_add_div e (M * 2);have al:=mv a (show 0 < M * 2 by lia);have bl:=mv e (show 0 < M * 2 by lia);generalize a % (M * 2)=ra at a1 al c;generalize e % (M * 2)=rb at b1 bl c ⊢;have ham:a % M=ra % M:=by rw[<- a1,pM,pS]
   have hbm:e % M=rb % M:=by rw[<- b1,pM,pS]
   have hrr:ra % M=rb % M:=by rw[<- ham,<- hbm];exact he
   have hA:(a + M) % (M * 2)=(ra + M) % (M * 2):=by
    rw[<- a1];have:ra + M * 2 * (a / (M * 2)) + M=ra + M + M * 2 * (a / (M * 2)):=by lia
    rw[this,pS]
   rw[hA];by_cases ha:ra < M
   ·have e3:ra % M=ra:=iE ha;have hb:¬rb < M:=fun z=>c (by rw[iE z]at hrr;lia);have e4:rb % M=rb - M:=by rw[pT (by lia),iE (by lia)]
    rw[iE (by lia)];lia
   ·have e3:ra % M=ra - M:=by rw[pT (by lia),iE (by lia)]
    have hb:rb < M:=Nat.lt_of_not_le fun z=>c (by
     have e4:rb % M=rb - M:=by rw[pT (by lia),iE (by lia)]
     lia)
    have e4:rb % M=rb:=iE hb;rw[pT (by lia),iE (by lia)];lia
end Tb
namespace Tb
open PySem PySem.SetTable
noncomputable def qg(t:b_):Nat->Probe->Probe
 | 0,p=>p
 |s + 1,p=>qg t s (t.advance p)
theorem su(t:b_)(a b:Nat)(p:Probe):qg t (a + b) p=qg t b (qg t a p):=by
 induction a generalizing p with
 |zero=>simp[qg]
 |succ a ih=>rw[Nat.succ_add];simp only[qg];exact ih _
theorem oG(t:b_)(s:Nat)(p:Probe):qg t (s + 1) p=t.advance (qg t s p):=by rw[su];rfl
noncomputable def qj(mask i pt:Nat)(d:Option Nat):Probe:={ j:=i,more:=runEnd mask i - i,i:=i,perturb:=pt,dummy:=d }
theorem aef(mask i:Nat):runEnd mask i - i<=9:=by unfold runEnd;split <;> lia
theorem Ov(t:b_):∀(m:Nat) (p:Probe),m<=p.more->qg t m p={ p with j:=p.j + m,more:=p.more - m }:=by
 intro m
 induction m with
 |zero=>intro p _;simp[qg]
 |succ m ih =>
  intro p h;rw[oG,ih p (by lia)];unfold advance;simp only;rw[if_pos (by lia)];simp only[Probe.mk.injEq,and_true,true_and];lia
theorem yZ(t:b_)(p:Probe):qg t (p.more + 1) p=qj t.mask (leap t.mask p.i p.perturb).1 (leap t.mask p.i p.perturb).2 p.dummy:=by rw[oG,Ov t p.more p (bE _)];unfold advance qj;simp only[Nat.sub_self,f_,gt_iff_lt,if_false]
noncomputable def lp(mask:Nat):Nat->Nat×Nat->Nat×Nat
 | 0,x=>x
 |n + 1,x=>leap mask (lp mask n x).1 (lp mask n x).2
theorem aeg(t:b_)(d:Option Nat)(i pt:Nat):∀n,∃s,s<=10 * n/\qg t s (qj t.mask i pt d)=qj t.mask (lp t.mask n (i,pt)).1 (lp t.mask n (i,pt)).2 d:=by
 intro n
 induction n with
 |zero=>exact⟨0,by lia,rfl⟩
 |succ n ih =>
  obtain⟨s,hs,e⟩:=ih;refine⟨s + ((qj t.mask (lp t.mask n (i,pt)).1 (lp t.mask n (i,pt)).2 d).more + 1),?_,?_⟩
  ·have:=aef t.mask (lp t.mask n (i,pt)).1;simp only[qj];lia
  ·rw[su,e,yZ];rfl
theorem agK(mask:Nat)(x:Nat×Nat):∀n,(lp mask n x).2=x.2 / 32 ^ n:=by
 intro n
 induction n with
 |zero=>simp[lp]
 |succ n ih=>simp only[lp,leap,ih];rw[Nat.div_div_eq_div_mul,k7]
theorem agL(mask:Nat)(x:Nat×Nat)(n:Nat):(lp mask (n + 1) x).1 < mask + 1:=mv _ (by lia)
theorem Vm(mask:Nat)(x:Nat×Nat)(a b:Nat):lp mask (a + b) x=lp mask b (lp mask a x):=by
 induction b with
 |zero=>rfl
 |succ b ih=>rw[Nat.add_succ];simp only[lp,ih]
theorem aau(mask i:Nat)(hi:i < mask + 1):∀n,lp mask n (i,0)=(it n i % (mask + 1),0):=by
 intro n
 induction n with
 |zero=>simp[lp,it,iE hi]
 |succ n ih =>
  simp only[lp,ih,leap,it,t9,Nat.zero_div,k9,and_true];rw[Nat.mul_comm,tJ,tP,Nat.mod_mod,<- tP,<- tJ]
theorem Vn{mask k:Nat}(hk:mask + 1=2 ^ k)(i pt:Nat)(hp:pt < 2 ^ 64){e:Nat}(he:e<=mask):∃n,n<=mask + 13/\(lp mask n (i,pt)).1=e:=by
 have h13:(lp mask 13 (i,pt)).2=0:=by rw[agK];exact Nat.div_eq_of_lt (t_ hp (by decide))
 have hl:=agL mask (i,pt) 12;obtain⟨m,hm,e1⟩:=agJ k (lp mask 13 (i,pt)).1 e;refine⟨13 + m,by lia,?_⟩;rw[Vm];have e2:lp mask 13 (i,pt)=((lp mask 13 (i,pt)).1,0):=by rw[<- h13]
 rw[e2,aau _ _ hl,hk,e1,iE (by lia)]
theorem hit{t:b_}{k:Nat}(hk:t.mask + 1=2 ^ k)(p:Probe)(h9:p.more<=9)(hp:p.perturb < 2 ^ 64){e:Nat}(he:e<=t.mask):∃s,s<=10 * (t.mask + 14)/\(qg t s p).j=e:=by have hq:(leap t.mask p.i p.perturb).2 < 2 ^ 64:=ir (Nat.div_le_self _ _) hp;obtain⟨n,hn,e1⟩:=Vn hk (leap t.mask p.i p.perturb).1 (leap t.mask p.i p.perturb).2 hq he;obtain⟨s,hs,e2⟩:=aeg t p.dummy (leap t.mask p.i p.perturb).1 (leap t.mask p.i p.perturb).2 n;refine⟨p.more + 1 + s,by lia,?_⟩;rw[su,yZ,e2];exact e1
theorem aeh(t:b_)(p:Probe)(h9:p.more<=9)(hp:p.perturb < 2 ^ 64):∀s,(qg t s p).more<=9/\(qg t s p).perturb < 2 ^ 64/\(qg t s p).dummy=p.dummy:=by
 intro s
 induction s with
 |zero=>exact⟨h9,hp,rfl⟩
 |succ s ih =>
  rw[oG];obtain⟨a,b,c⟩:=ih;unfold advance;split
  ·exact⟨by simp only;lia,b,c⟩
  ·exact⟨aef _ _,ir (Nat.div_le_self _ _) b,c⟩
theorem Ow(h:Int):bits h < 2 ^ 64:=by unfold bits;have:=iF h (show(0:Int) < 2 ^ 64 by decide);have:=gf h (show(2 ^ 64:Int)≠0 by decide);lia
noncomputable def pos(t:b_)(h:Int)(s:Nat):Nat:=(qg t s (t.probeStart h)).j
theorem uZ(t:b_)(h:Int)(s:Nat):(qg t s (t.probeStart h)).more<=9/\(qg t s (t.probeStart h)).perturb < 2 ^ 64/\(qg t s (t.probeStart h)).dummy=none :=
 aeh t _ (aef _ _) (Ow h) s
theorem aav{t:b_}{k:Nat}(hk:t.mask + 1=2 ^ k)(h:Int)(s0:Nat){e:Nat}(he:e<=t.mask):∃s,s0<=s/\s<=s0 + 10 * (t.mask + 14)/\pos t h s=e:=by obtain⟨a,b,_⟩:=uZ t h s0;obtain⟨s,hs,e1⟩:=hit hk (qg t s0 (t.probeStart h)) a b he;exact⟨s0 + s,by lia,by lia,by unfold pos;rw[su];exact e1⟩
noncomputable def za(xs:Array Nat):Prop:=∀a b,a < b->b < xs.size->xs.getD a 0 < xs.getD b 0
theorem aaw{xs:Array Nat}{a:Nat}(h:a < xs.size)(d:Nat):xs.getD a d=xs.getD a 0:=by simp[hZ,h]
theorem Vo{xs:Array Nat}{j:Nat}(R:za xs):∀(fuel lo hi:Nat),lo<=hi->hi<=xs.size->hi<=lo + fuel->(∀a,a < lo->xs.getD a 0 < j)->(∀a,hi<=a->a < xs.size->j<=xs.getD a 0) ->
  below.go xs j fuel lo hi<=xs.size/\(∀a,a < below.go xs j fuel lo hi->xs.getD a 0 < j)/\(∀a,below.go xs j fuel lo hi<=a->a < xs.size->j<=xs.getD a 0):=by
 intro fuel
 induction fuel with
 |zero =>
  intro lo hi h1 h2 h3 h4 h5;obtain rfl:lo=hi:=by lia
  exact⟨h2,h4,h5⟩
 |succ fuel ih =>
  intro lo hi h1 h2 h3 h4 h5;unfold below.go;by_cases c:lo < hi
  ·rw[if_pos c];simp only;have hm:(lo + hi) / 2 < xs.size:=by lia
   rw[aaw hm];by_cases d:xs.getD ((lo + hi) / 2) 0 < j
   ·rw[if_pos d];refine ih _ _ (by lia) h2 (by lia) (fun a ha=>?_) h5;by_cases e:a=(lo + hi) / 2
    ·rw[e];exact d
    ·exact t_ (R a ((lo + hi) / 2) (by lia) hm) d
   ·rw[if_neg d];refine ih _ _ (by lia) (by lia) (by lia) h4 fun a ha hs=>?_;by_cases e:a=(lo + hi) / 2
    ·rw[e];lia
    ·exact cx (by lia) (gm (R ((lo + hi) / 2) a (by lia) hs))
  ·rw[if_neg c];obtain rfl:lo=hi:=by lia
   exact⟨h2,h4,h5⟩
theorem uq{xs:Array Nat}(R:za xs)(j:Nat):below xs j<=xs.size/\(∀a,a < below xs j->xs.getD a 0 < j)/\(∀a,below xs j<=a->a < xs.size->j<=xs.getD a 0) :=
 Vo R xs.size 0 xs.size (eJ _) (bE _) (by lia) (fun a h=>absurd h (by lia)) fun a h1 h2=>absurd h1 (by lia)
theorem Vp{xs:Array Nat}(R:za xs){i:Nat}(hi:i < xs.size):below xs (xs.getD i 0)=i:=by
 obtain⟨h1,h2,h3⟩:=uq R (xs.getD i 0);by_cases c:below xs (xs.getD i 0) < i
 ·have:=h3 _ (bE _) (by lia);have:=R _ i c hi;lia
 ·by_cases d:i < below xs (xs.getD i 0)
  ·have:=h2 i d;lia
  ·lia
noncomputable def zc(t:b_)(j:Nat):Prop:=∃i,i < t.place.size/\t.place.getD i 0=j
theorem HN{xs:Array Nat}{i:Nat}(hi:i < xs.size):xs[i]?=some (xs.getD i 0):=by simp[hZ,hi]
theorem CJ{t:b_}(R:za t.place){i:Nat}(hi:i < t.place.size):t.slot (t.place.getD i 0)=.live i:=by unfold slot;simp only;rw[Vp R hi,HN hi];simp
theorem KN{t:b_}(nd:t.dummies=#[]){j:Nat}(h:¬zc t j):t.slot j=.empty:=by
 unfold slot;simp only;rw[if_neg,if_neg]
 ·unfold has;rw[nd];simp
 ·intro c;apply h;have c':t.place[below t.place j]?=some j:=by simpa using c
  obtain⟨hl,e⟩:=fS.mp c';exact⟨_,hl,by simp[hZ,hl,e]⟩
theorem Eu{t:b_}(R:za t.place){j:Nat}(h:zc t j):∃i,i < t.place.size/\t.place.getD i 0=j/\t.slot j=.live i:=by obtain⟨i,hi,e⟩:=h;exact⟨i,hi,e,by rw[<- e];exact CJ R hi⟩
theorem aax{xs:Array Nat}(R:za xs):∀i,i < xs.size->i<=xs.getD i 0:=by
 intro i
 induction i with
 |zero=>intro _;exact eJ _
 |succ i ih=>intro h;have:=ih (by lia);have:=R i (i + 1) (by lia) h;lia
theorem KQ{t:b_}(R:za t.place)(hs:t.place.size<=t.mask):∃e,e<=t.mask/\¬zc t e:=by
 have key:∀n,n<=t.place.size->(∀a,a < n->t.place.getD a 0=a)∨∃e,e < n/\t.place.getD e 0≠e/\∀a,a < e->t.place.getD a 0=a:=by
  intro n
  induction n with
  |zero=>intro _;exact .inl fun a h=>absurd h (by lia)
  |succ n ih =>
   intro h;rcases ih (by lia) with h1|⟨e,h1,h2,h3⟩
   ·by_cases c:t.place.getD n 0=n
    ·refine .inl fun a ha=>?_;by_cases d:a=n
     ·rw[d];exact c
     ·exact h1 a (by lia)
    ·exact .inr ⟨n,by lia,c,h1⟩
   ·exact .inr ⟨e,by lia,h2,h3⟩
 rcases key t.place.size (bE _) with h|⟨e,h1,h2,h3⟩
 ·refine⟨t.place.size,hs,fun⟨i,hi,e⟩=>?_⟩;have:=h i hi;lia
 ·refine⟨e,by lia,fun⟨i,hi,e'⟩=>?_⟩;by_cases c:i < e
  ·have:=h3 i c;lia
  ·have hge:=aax R e h1;by_cases d:i=e
   ·subst d;exact h2 e'
   ·have:=R e i (by lia) hi;lia
theorem Vq{t:b_}(R:za t.place)(nd:t.dummies=#[])(hashAt:Nat->Int)(h:Int):∀(fuel s0 s1:Nat),s0<=s1->s1 < s0 + fuel->¬zc t (pos t h s1) ->
    ∃s2,s0<=s2/\s2<=s1/\(∀s,s0<=s->s < s2->∃i,i < t.place.size/\t.place.getD i 0=pos t h s/\hashAt i≠h) /\
      ((¬zc t (pos t h s2) /\ probe.go t hashAt h fuel (qg t s0 (t.probeStart h)) = some (.empty (pos t h s2) none)) ∨
       ∃i,i < t.place.size/\t.place.getD i 0=pos t h s2/\hashAt i=h/\probe.go t hashAt h fuel (qg t s0 (t.probeStart h))=some (.candidate (pos t h s2) i (qg t (s2 + 1) (t.probeStart h)))):=by
  intro fuel
  induction fuel with
  |zero=>intro s0 s1 h1 h2;lia
  |succ fuel ih =>
    intro s0 s1 h1 h2 hl;have hd:=(uZ t h s0).2.2;unfold probe.go;by_cases c:zc t (pos t h s0)
    . obtain⟨i,hi,e1,e2⟩:=Eu R c
      have e2':t.slot (qg t s0 (t.probeStart h)).j=.live i:=e2;rw[e2'];simp only;by_cases d:hashAt i=h
      . refine⟨s0,bE _,h1,fun s a b=>absurd a (by lia),.inr ⟨i,hi,e1,d,?_⟩⟩
        rw[if_pos (by simp[d]),oG];rfl
      . rw[if_neg (by simp[d]),<- oG]
        have hne:s0≠s1:=fun z=>hl (z▸c);obtain⟨s2,a1,a2,a3,a4⟩:=ih (s0 + 1) s1 (by lia) (by lia) hl;refine⟨s2,by lia,a2,fun s b1 b2=>?_,a4⟩;by_cases z:s=s0
        . subst z;exact⟨i,hi,e1,d⟩
        . exact a3 s (by lia) b2
    . refine⟨s0,bE _,h1,fun s a b=>absurd a (by lia),.inl ⟨c,?_⟩⟩
      have e2:t.slot (qg t s0 (t.probeStart h)).j=.empty:=KN nd c;rw[e2];simp only;rw[hd];rfl
theorem Vr{t t':b_}(e:t.mask=t'.mask):∀s p,qg t s p=qg t' s p:=by
 intro s
 induction s with
 |zero=>intro p;rfl
 |succ s ih =>
  intro p;simp only[qg];have:t.advance p=t'.advance p:=by unfold advance;rw[e]
  rw[this,ih]
theorem HS{t t':b_}(e:t.mask=t'.mask)(h:Int)(s:Nat):pos t h s=pos t' h s:=by
 unfold pos;have:t.probeStart h=t'.probeStart h:=by unfold probeStart;rw[e]
 rw[this,Vr e]
noncomputable abbrev gC:=Nat×Int×aa
structure Good (t:b_)(L:List gC):Prop where
 pw:∃k,t.mask + 1=2 ^ k
 m7:7<=t.mask
 nd:t.dummies=#[]
 pl:t.place=(L.map (·.1)).toArray
 so:(L.map (·.1)).Pairwise (· < ·)
 le:∀e∈L,e.1<=t.mask
 reach:∀e∈L,∃s,pos t e.2.1 s=e.1/\∀s',s' < s->∃e'∈L,e'.1=pos t e.2.1 s'
section
variable{t:b_}{L:List gC}
theorem Good.sz(g:Good t L):t.place.size=L.length:=by rw[g.pl];simp
theorem Good.at(g:Good t L){i:Nat}(hi:i < L.length):t.place.getD i 0=L[i].1:=by rw[g.pl];simp[hZ,hi]
theorem Good.rise(g:Good t L):za t.place:=by intro a b hab hb;rw[g.sz]at hb;rw[g.at (show a < L.length by lia),g.at hb];have:=(k_.mp g.so) a b (by simpa using(show a < L.length by lia)) (by simpa using hb) hab;simpa using this
theorem Good.live(g:Good t L){j:Nat}:zc t j↔∃e∈L,e.1=j:=by
 constructor
 ·rintro⟨i,hi,e⟩;rw[g.sz]at hi;rw[g.at hi]at e;exact⟨L[i],eW hi,e⟩
 ·rintro⟨e,he,q⟩;obtain⟨i,hi,e1⟩:=mw.mp he;exact⟨i,by rw[g.sz];exact hi,by rw[g.at hi,e1];exact q⟩
theorem Good.uniq(g:Good t L){e e':gC}(h:e∈L)(h':e'∈L)(q:e.1=e'.1):e=e':=by
 obtain⟨i,hi,rfl⟩:=mw.mp h;obtain⟨j,hj,rfl⟩:=mw.mp h';have R:=g.rise;by_cases c:i < j
 ·have:=R i j c (by rw[g.sz];exact hj);rw[g.at hi,g.at hj]at this;lia
 ·by_cases d:j < i
  ·have:=R j i d (by rw[g.sz];exact hi);rw[g.at hi,g.at hj]at this;lia
  ·obtain rfl:i=j:=by lia
   rfl
end
theorem tQ{α:Type}(xs:List α)(p:Nat)(hp:p<=xs.length)(x:α):insertAt xs.toArray p x=(xs.take p++x::xs.drop p).toArray:=by unfold insertAt;apply pV.mp;simp only[List.extract_toArray,dk,ka,p7,List.extract_eq_take_drop,Nat.sub_zero,List.drop_zero];rw[ue (l:=xs.drop p) (by simp)];simp
theorem Ew(t:b_)(nd:t.dummies=#[])(j:Nat):t.put j=({ t with place:=insertAt t.place (below t.place j) j },below t.place j):=by
 unfold put;have:has t.dummies j=false:=by unfold has;rw[nd];simp
 simp only[this,bz,if_false]
theorem Good.put{t:b_}{L:List gC}(g:Good t L){j:Nat}{h:Int}{x:aa}(hj:j<=t.mask)(hn:¬zc t j)(hr:∃s,pos t h s=j/\∀s',s' < s->∃e'∈L,e'.1=pos t h s') :
  (t.put j).2<=L.length/\Good (t.put j).1 (L.take (t.put j).2++(j,h,x)::L.drop (t.put j).2):=by
 rw[Ew t g.nd];obtain⟨b1,b2,b3⟩:=uq g.rise j;rw[g.sz]at b1 b3;simp only;generalize hp:below t.place j=p at *;refine⟨b1,?_⟩;have mem:∀e:gC,e∈L.take p++(j,h,x)::L.drop p↔e=(j,h,x)∨e∈L:=fun e=>by
  have:L=L.take p++L.drop p:=(my p L).symm;constructor
  ·intro z;rcases dt.mp z with z|z
   ·exact .inr (n6 z)
   ·rcases cm.mp z with z|z
    ·exact .inl z
    ·exact .inr (ui z)
  ·rintro(z|z)
   ·subst z;simp
   ·rw[this]at z;rcases dt.mp z with z|z
    ·exact g7 _ z
    ·exact fw _ (fv _ z)
 have pm:∀(hh:Int) (s:Nat),pos { t with place:=insertAt t.place p j } hh s=pos t hh s:=fun hh s=>HS (by rfl) hh s;refine⟨g.pw,g.m7,g.nd,?_,?_,fun e he=>?_,fun e he=>?_⟩
 ·show insertAt t.place p j=_;rw[g.pl,tQ _ _ (by simpa using b1)];simp[uj,uk]
 ·simp only[iL,bX];rw[gy];refine⟨?_,?_,?_⟩
  ·rw[uj];exact kc (nE _ _) g.so
  ·rw[f7];refine⟨fun a ha=>?_,?_⟩
   ·obtain⟨e,he,rfl⟩:=dC.mp ha;obtain⟨i,hi,rfl⟩:=mw.mp he;have hi':p + i < L.length:=by simp at hi;lia
    have q:=b3 (p + i) (by lia) hi';rw[g.at hi']at q;have ne:L[p + i].1≠j:=fun z=>hn (g.live.mpr ⟨_,eW hi',z⟩);simp only[List.getElem_drop];show j < _;lia
   ·rw[uk];exact kc (uv _ _) g.so
  ·intro a ha b hb;obtain⟨e,he,rfl⟩:=dC.mp ha;obtain⟨i,hi,rfl⟩:=mw.mp he;have hi':i < p:=by simp at hi;lia
   have q:=b2 i hi';rw[g.at (show i < L.length by lia)]at q;simp only[List.getElem_take];rcases cm.mp hb with z|z
   ·rw[z];exact q
   ·obtain⟨e',he',rfl⟩:=dC.mp z;obtain⟨i',hi2,rfl⟩:=mw.mp he';have hi3:p + i' < L.length:=by simp at hi2;lia
    have:=b3 (p + i') (by lia) hi3;rw[g.at hi3]at this;simp only[List.getElem_drop];lia
 ·rcases(mem e).mp he with z|z
  ·rw[z];exact hj
  ·exact g.le e z
 ·rcases(mem e).mp he with z|z
  ·subst z;obtain⟨s,e1,e2⟩:=hr;refine⟨s,by rw[pm];exact e1,fun s' hs=>?_⟩;obtain⟨e',h1,h2⟩:=e2 s' hs;exact⟨e',(mem e').mpr (.inr h1),by rw[pm];exact h2⟩
  ·obtain⟨s,e1,e2⟩:=g.reach e z;refine⟨s,by rw[pm];exact e1,fun s' hs=>?_⟩;obtain⟨e',h1,h2⟩:=e2 s' hs;exact⟨e',(mem e').mpr (.inr h1),by rw[pm];exact h2⟩
noncomputable def jy(owner:Array (Option Nat))(j:Nat):Prop:=owner.getD j (some 0)=none
theorem Ra{mask:Nat}{t:b_}(ht:t.mask=mask)(owner:Array (Option Nat)):∀(fuel i pt n:Nat),n < fuel->jy owner (lp mask n (i,pt)).1 ->
  ∃j s,layClean.free mask owner fuel i pt=some j/\(qg t s (qj mask i pt none)).j=j/\jy owner j/\∀s',s' < s->¬jy owner (qg t s' (qj mask i pt none)).j:=by
 intro fuel
 induction fuel with
 |zero=>intro i pt n h;lia
 |succ fuel ih =>
  intro i pt n hn hN;unfold layClean.free;have run:∀s,s<=runEnd mask i - i->(qg t s (qj mask i pt none)).j=i + s:=fun s hs=>by rw[Ov t s _ hs];rfl
  have hre:i<=runEnd mask i:=by unfold runEnd;split <;> lia
  cases e:(bS (runEnd mask i + 1 - i)).find? fun k=>(owner.getD (i + k) (some 0)).isNone with
  |some k =>
   simp only;have h1:=List.find?_some e;have h2:=List.mem_of_find?_eq_some e;have h3:=fq.mp h2;refine⟨i + k,k,rfl,run k (by lia),by simpa[jy] using h1,fun s' hs z=>?_⟩;rw[run s' (by lia)]at z;have:=List.find?_eq_some_iff_append.mp e;obtain⟨_,as,bs,e1,e2⟩:=this;have hs':s'∈as:=by
    have hm:s'∈bS (runEnd mask i + 1 - i):=fq.mpr (by lia);have ps:=List.pairwise_lt_range (n:=runEnd mask i + 1 - i);rw[e1]at hm ps;rcases dt.mp hm with hm|hm
    ·exact hm
    ·rcases cm.mp hm with hm|hm
     ·lia
     ·have:=(f7.mp (gy.mp ps).2.1).1 s' hm;lia
   have:=e2 s' hs';rw[show owner.getD (i + s') (some 0)=none from z]at this;simp at this
  |none =>
   simp only;have h1:=List.find?_eq_none.mp e;have no:∀s,s<=runEnd mask i - i->¬jy owner (i + s):=fun s hs z=>by have:=h1 s (fq.mpr (by lia));rw[show owner.getD (i + s) (some 0)=none from z]at this;simp at this
   cases n with
   |zero=>exact absurd hN (no 0 (by lia))
   |succ n =>
    have e3:lp mask (n + 1) (i,pt)=lp mask n (leap mask i pt):=by rw[Nat.add_comm,Vm];rfl
    rw[e3]at hN;obtain⟨j,s,a1,a2,a3,a4⟩:=ih (leap mask i pt).1 (leap mask i pt).2 n (by lia) hN;have hl:qg t (runEnd mask i - i + 1) (qj mask i pt none)=qj mask (leap mask i pt).1 (leap mask i pt).2 none:=by have:=yZ t (qj mask i pt none);rw[ht]at this;exact this
    refine⟨j,runEnd mask i - i + 1 + s,a1,by rw[su,hl];exact a2,a3,fun s' hs z=>?_⟩;by_cases c:s'<=runEnd mask i - i
    ·rw[run s' c]at z;exact no s' c z
    ·obtain⟨q,rfl⟩:∃q,s'=runEnd mask i - i + 1 + q:=⟨s' - (runEnd mask i - i + 1),by lia⟩
     rw[su,hl]at z;exact a4 q (by lia) z
theorem vd{α β:Type}{f g:α->Option β}:∀{l:List α},(∀a∈l,f a=g a)->l.filterMap f=l.filterMap g
 | [],_=>rfl
 |a::l,h=>by have ih:=vd (l:=l) fun b hb=>h b (fv _ hb);simp only[nh,ih,h a eR]
noncomputable def gD(M:Nat)(owner:Array (Option Nat)):List (Nat×Nat):=(bS M).filterMap fun j=>(owner.getD j none).map (j,·)
theorem pH{M:Nat}{owner:Array (Option Nat)}{j i:Nat}:(j,i)∈gD M owner↔j < M/\owner.getD j none=some i:=by
 unfold gD;simp only[jI,fq,p8,t9];constructor
 ·rintro⟨a,h1,b,h2,rfl,rfl⟩;exact⟨h1,h2⟩
 ·rintro⟨h1,h2⟩;exact⟨j,h1,i,h2,rfl,rfl⟩
theorem Bq{M:Nat}{owner:Array (Option Nat)}:((gD M owner).map (·.1)).Pairwise (· < ·):=by
 have e:(gD M owner).map (·.1)=(bS M).filter fun j=>(owner.getD j none).isSome:=by unfold gD;rw[uA,<- List.filterMap_eq_filter];congr 1;funext j;generalize hz:owner.getD j none=o;cases o <;> simp[Option.guard,hz]
 rw[e];exact kc uB List.pairwise_lt_range
theorem HW{f f':Nat->Option (Nat×Nat)}{j:Nat}{v:Nat×Nat}:∀{l:List Nat},l.Nodup->j∈l->f j=none->f' j=some v->(∀a,a≠j->f' a=f a)->(l.filterMap f').Perm (v::l.filterMap f)
 | [],_,h,_,_,_=>by cases h
 |a::l,nd,h,h1,h2,h3=>by
  have nd':=g_.mp nd;by_cases c:a=j
  ·subst c;have same:l.filterMap f'=l.filterMap f:=vd fun b hb=>h3 b fun z=>nd'.1 (z▸hb);rw[n9 h2,uC h1,same]
  ·have hm:j∈l:=(cm.mp h).resolve_left (dE c);have ih:=HW nd'.2 hm h1 h2 h3;cases e:f a with
   |none =>
    rw[uC (by rw[h3 a c];exact e),uC e];exact ih
   |some b =>
    rw[n9 (by rw[h3 a c];exact e),n9 e];exact(ih.cons b).trans (h_.swap ..)
theorem KR{M:Nat}{owner:Array (Option Nat)}(hs:owner.size=M){j k:Nat}(hj:j < M)(hn:owner.getD j none=none):(gD M (owner.setIfInBounds j (some k))).Perm ((j,k)::gD M owner):=by
 unfold gD;refine HW (j:=j) List.nodup_range (fq.mpr hj) (by rw[hn];rfl) ?_ fun a ha=>?_
 ·have:(owner.setIfInBounds j (some k)).getD j none=some k:=by simp[hZ,hs,hj]
  rw[this];rfl
 ·have:(owner.setIfInBounds j (some k)).getD a none=owner.getD a none:=by simp only[ke];rw[tq (dE ha)]
  rw[this]
structure LC (t:b_)(hs:List Int)(owner:Array (Option Nat))(k:Nat):Prop where
 sz:owner.size=t.mask + 1
 pm:((gD (t.mask + 1) owner).map (·.2)).Perm (bS k)
 reach:∀j i,(j,i)∈gD (t.mask + 1) owner->∃h,hs[i]?=some h/\∃s,pos t h s=j/\∀s',s' < s->¬jy owner (pos t h s')
theorem Ox{owner:Array (Option Nat)}{j:Nat}(h:jy owner j):j < owner.size/\owner.getD j none=none:=by
 unfold jy at h;by_cases c:j < owner.size
 ·simp only[hZ,c,dif_pos]at h ⊢;exact⟨trivial,h⟩
 ·simp[hZ,c]at h
theorem LC.step{t:b_}{hs:List Int}{owner:Array (Option Nat)}{k:Nat}(g:LC t hs owner k)(pw:∃q,t.mask + 1=2 ^ q)(hk:k<=t.mask){h:Int}(hh:hs[k]?=some h) :
  ∃j,layClean.free t.mask owner (turns t.mask) (bits h % (t.mask + 1)) (bits h)=some j/\LC t hs (owner.setIfInBounds j (some k)) (k + 1):=by
 obtain⟨q,hq⟩:=pw;have emp:∃e,e<=t.mask/\jy owner e:=by
  refine Classical.byContradiction fun c=>?_;have all:∀e,e < t.mask + 1->∃i,(e,i)∈gD (t.mask + 1) owner:=fun e he=>by
   cases z:owner.getD e none with
   |some i=>exact⟨i,pH.mpr ⟨he,z⟩⟩
   |none =>
    refine absurd ⟨e,by lia,?_⟩ c;have hl:e < owner.size:=by rw[g.sz];exact he
    simp only[jy,hZ,hl,dif_pos]at z ⊢;exact z
  have l1:(gD (t.mask + 1) owner).length=k:=by have:=g.pm.length_eq;simpa using this
  have l2:((gD (t.mask + 1) owner).map (·.1))=bS (t.mask + 1):=by
   unfold gD;rw[uA];have:(bS (t.mask + 1)).filterMap (fun x=>Option.map (·.1) (Option.map (x,·) (owner.getD x none)))=(bS (t.mask + 1)).filterMap some:=by refine vd fun x hx=>?_;obtain⟨i,hi⟩:=all x (fq.mp hx);rw[(pH.mp hi).2];rfl
   rw[this];simp
  have l3:=congrArg ip l2;simp at l3;lia
 obtain⟨e,he,hN⟩:=emp;obtain⟨n,hn,en⟩:=Vn hq (bits h % (t.mask + 1)) (bits h) (Ow h) he;obtain⟨j,s,f1,f2,f3,f4⟩:=Ra (t:=t) rfl owner (turns t.mask) (bits h % (t.mask + 1)) (bits h) n (by unfold turns;lia) (by rw[en];exact hN);obtain⟨hj,hjn⟩:=Ox f3;have hp:=KR (k:=k) g.sz (by rw[<- g.sz];exact hj) hjn;have stays:∀a,¬jy owner a->¬jy (owner.setIfInBounds j (some k)) a:=fun a ha z=>by
  by_cases c:a=j
  ·subst c;have:=Ox z;simp[hZ,hj]at this
  ·apply ha;unfold jy at z ⊢;simp only[ke]at z ⊢;rw[tq (dE c)]at z;exact z
 refine⟨j,f1,⟨by simp[g.sz],?_,fun j' i' hm=>?_⟩⟩
 ·have:=(hp.map (fun(x:Nat×Nat)=>x.2)).trans (h_.cons k g.pm);refine this.trans ?_;rw[List.range_succ];exact kf (l₁:=[k]) (l₂:=bS k)
 ·rcases cm.mp (hp.mem_iff.mp hm) with z|z
  ·cases z;exact⟨h,hh,s,f2,fun s' hs'=>stays _ (f4 s' hs')⟩
  ·obtain⟨h',e1,s1,e2,e3⟩:=g.reach j' i' z;exact⟨h',e1,s1,e2,fun s' hs'=>stays _ (e3 s' hs')⟩
theorem Vs{mask i:Nat}(h:i<=mask):i + (runEnd mask i - i)<=mask:=by unfold runEnd;split <;> lia
theorem aei(t:b_)(p:Probe)(h:p.j + p.more<=t.mask):∀s,(qg t s p).j + (qg t s p).more<=t.mask:=by
 intro s
 induction s with
 |zero=>exact h
 |succ s ih =>
  rw[oG];unfold advance;split
  ·simp only;lia
  ·exact Vs (Nat.le_of_lt_succ (mv _ (by lia)))
theorem Vt(t:b_)(h:Int)(s:Nat):pos t h s<=t.mask:=by have:=aei t (t.probeStart h) (Vs (Nat.le_of_lt_succ (mv _ (by lia)))) s;unfold pos;lia
theorem Vu{t:b_}(pw:∃q,t.mask + 1=2 ^ q)(hs:List Int)(hn:hs.length<=t.mask):∀(rest pre:List Int) (owner:Array (Option Nat)),hs=pre++rest->LC t hs owner pre.length ->
  ∃Ey,rest.foldl (init:=some (owner,pre.length)) (fun acc h=>do
    let (owner,k) <- acc
    let j <- layClean.free t.mask owner (turns t.mask) (bits h % (t.mask + 1)) (bits h)
    pure (owner.setIfInBounds j (some k),k + 1))=some (Ey,hs.length)/\LC t hs Ey hs.length:=by
 intro rest
 induction rest with
 |nil =>
  intro pre owner e g;rw[dP]at e;subst e;exact⟨owner,rfl,g⟩
 |cons h rest ih =>
  intro pre owner e g;have hk:hs[pre.length]?=some h:=by rw[e];simp
  have hl:pre.length<=t.mask:=by rw[e]at hn;simp at hn;lia
  obtain⟨j,f1,g1⟩:=g.step pw hl hk;obtain⟨Ey,e1,g2⟩:=ih (pre++[h]) (owner.setIfInBounds j (some pre.length)) (by rw[e];simp) (by simpa using g1);refine⟨Ey,?_,g2⟩;rw[kR];have:(some (owner,pre.length) >>= fun x=>match x with
    | (owner,k)=>layClean.free t.mask owner (turns t.mask) (bits h % (t.mask + 1)) (bits h) >>= fun j=>pure (owner.setIfInBounds j (some k),k + 1))=some (owner.setIfInBounds j (some pre.length),(pre++[h]).length):=by
   show(layClean.free t.mask owner (turns t.mask) (bits h % (t.mask + 1)) (bits h) >>= fun j=>pure (owner.setIfInBounds j (some pre.length),pre.length + 1))=_;rw[f1];simp
  exact(congrArg (fun o=>rest.foldl _ o) this).trans e1
theorem LC.start(t:b_)(hs:List Int):LC t hs (p9 (t.mask + 1) none) 0:=by
 have e:gD (t.mask + 1) (p9 (t.mask + 1) none)=[]:=by
  unfold gD;rw[List.filterMap_eq_nil_iff];intro j hj;have:(p9 (t.mask + 1) (none:Option Nat)).getD j none=none:=by simp only[ke,Array.getElem?_replicate];split <;> rfl
  rw[this];rfl
 refine⟨by simp,by rw[e];exact .refl _,fun j i h=>?_⟩;rw[e]at h;cases h
theorem HX{t:b_}(pw:∃q,t.mask + 1=2 ^ q)(hs:Array Int)(hn:hs.size<=t.mask):∃owner,layClean t.mask hs=some owner/\LC t hs.toList owner hs.size:=by obtain⟨owner,e,g⟩:=Vu pw hs.toList (by simpa using hn) hs.toList [] (p9 (t.mask + 1) none) rfl (LC.start t _);refine⟨owner,?_,by simpa using g⟩;unfold layClean;rw[<- Array.foldl_toList];have e':=congrArg (Option.map (·.1)) e;exact e'
theorem Ez:∀(fuel size n:Nat),(∃q,size=2 ^ q)->8<=size->n < size * 2 ^ fuel->∃q,sizeAbove.go n fuel size=2 ^ q/\8<=sizeAbove.go n fuel size/\n < sizeAbove.go n fuel size/\(sizeAbove.go n fuel size=size∨sizeAbove.go n fuel size<=2 * n):=by
 intro fuel
 induction fuel with
 |zero=>intro size n ⟨q,hq⟩ h8 h;exact⟨q,hq,h8,by simpa[sizeAbove.go] using h,.inl rfl⟩
 |succ fuel ih =>
  intro size n ⟨q,hq⟩ h8 h;unfold sizeAbove.go;by_cases c:size<=n
  ·rw[if_pos c];obtain⟨q',a1,a2,a3,a4⟩:=ih (size * 2) n ⟨q + 1,by rw[hq,k7]⟩ (by lia) (by rw[pM,<- Nat.pow_succ'];exact h);refine⟨q',a1,a2,a3,.inr ?_⟩;rcases a4 with a4|a4
   ·rw[a4];lia
   ·exact a4
  ·rw[if_neg c];exact⟨q,hq,h8,by lia,.inl rfl⟩
theorem EY(n:Nat)(hn:n < 2 ^ 60):(∃q,sizeAbove n - 1 + 1=2 ^ q)/\7<=sizeAbove n - 1/\n<=sizeAbove n - 1/\(sizeAbove n - 1=7∨sizeAbove n<=2 * n):=by
 obtain⟨q,a1,a2,a3,a4⟩:=Ez 64 8 n ⟨3,rfl⟩ (bE _) (t_ hn (by decide));unfold sizeAbove;refine⟨⟨q,by rw[<- a1];lia⟩,by lia,by lia,?_⟩;rcases a4 with a4|a4
 ·left;lia
 ·right;exact a4
theorem Rb{mask:Nat}(pw:∃q,mask + 1=2 ^ q)(m7:7<=mask)(finger moves:Nat)(led plain:Bool)(es:List (Int×aa))(hn:es.length<=mask) :
  ∃t' order L,laid mask finger moves led plain (es.map (·.1)).toArray=some (t',order)/\t'.mask=mask/\t'.led=led/\t'.plain=plain/\t'.moves=moves/\Good t' L/\order.filterMap (fun i=>es.toArray[i]?)=(L.map (·.2)).toArray/\(L.map (·.2)).Perm es:=by
 let t0:b_:={ mask,place:=#[],dummies:=#[],finger,led,moves,plain }
 obtain⟨owner,e1,g⟩:=HX (t:=t0) pw (es.map (·.1)).toArray (by simpa using hn)
 let live:=gD (mask + 1) owner
 let t1:b_:={ mask,place:=(live.map (·.1)).toArray,dummies:=#[],finger,led,moves,plain }
 have hi:∀j i,(j,i)∈live->∃e,es[i]?=some e:=fun j i h=>by obtain⟨hh,a1,_⟩:=g.reach j i h;simp only[di,p8]at a1;obtain⟨e,a2,_⟩:=a1;exact⟨e,a2⟩
 let L:List gC:=live.filterMap fun x=>(es[x.2]?).map fun e=>(x.1,e)
 have hL1:∀l:List (Nat×Nat),(∀x∈l,∃e,es[x.2]?=some e)->(l.filterMap fun x=>(es[x.2]?).map fun e=>((x.1,e):gC)).map (·.1)=l.map (·.1):=by
  intro l
  induction l with
  |nil=>intro _;rfl
  |cons x l ih =>
   intro h;obtain⟨e,he⟩:=h x eR;rw[n9 (by rw[he];rfl),bX,bX,ih fun y hy=>h y (fv _ hy)]
 have hL2:∀l:List (Nat×Nat),(l.filterMap fun x=>(es[x.2]?).map fun e=>((x.1,e):gC)).map (·.2)=(l.map (·.2)).filterMap fun i=>es[i]?:=by intro l;rw[uA,List.filterMap_map];refine vd fun x _=>?_;simp only[Function.comp];cases es[x.2]? <;> rfl
 have rg:∀l:List (Int×aa),(bS l.length).filterMap (fun i=>l[i]?)=l:=by
  intro l
  induction l with
  |nil=>rfl
  |cons a l ih =>
   rw[ck,nS,n9 (by rfl),List.filterMap_map];congr 1
 have pmL:(L.map (·.2)).Perm es:=by
  show((live.filterMap fun x=>(es[x.2]?).map fun e=>((x.1,e):gC)).map (·.2)).Perm es;rw[hL2];have:=(g.pm.filterMap fun i=>es[i]?)
  have e2:(es.map (·.1)).toArray.size=es.length:=by simp
  rw[e2]at this;rw[rg]at this;exact this
 refine⟨t1,(live.map (·.2)).toArray,L,?_,rfl,rfl,rfl,rfl,⟨pw,m7,rfl,?_,?_,fun e he=>?_,fun e he=>?_⟩,?_,pmL⟩
 ·unfold laid;have e1':layClean mask (es.map (·.1)).toArray=some owner:=e1;rw[e1'];rfl
 ·show(live.map (·.1)).toArray=_;rw[show L.map (·.1)=live.map (·.1) from hL1 live fun x hx=>hi x.1 x.2 hx]
 ·rw[show L.map (·.1)=live.map (·.1) from hL1 live fun x hx=>hi x.1 x.2 hx];exact Bq
 ·obtain⟨x,hx,h2⟩:=jI.mp he;obtain⟨e',_,rfl⟩:=p8.mp h2;have:=(pH (j:=x.1) (i:=x.2)).mp hx;show x.1<=mask;lia
 ·obtain⟨x,hx,h2⟩:=jI.mp he;obtain⟨e',h3,rfl⟩:=p8.mp h2;obtain⟨hh,a1,s,a2,a3⟩:=g.reach x.1 x.2 hx;simp only[di,h3,n_,Option.some.injEq]at a1;subst a1;have pm:∀s,pos t1 e'.1 s=pos t0 e'.1 s:=fun s=>HS (t:=t1) (t':=t0) rfl _ s;refine⟨s,by rw[pm];exact a2,fun s' hs=>?_⟩;have nn:=a3 s' hs;have hlt:pos t0 e'.1 s' < mask + 1:=Nat.lt_succ_of_le (Vt t0 e'.1 s');cases z:owner.getD (pos t0 e'.1 s') none with
  |none =>
   refine absurd ?_ nn;have hl:pos t0 e'.1 s' < owner.size:=by rw[g.sz];exact hlt
   simp only[jy,hZ,hl,dif_pos]at z ⊢;exact z
  |some i =>
   have hm:(pos t0 e'.1 s',i)∈live:=pH.mpr ⟨hlt,z⟩;obtain⟨e2,he2⟩:=hi _ _ hm;refine⟨(pos t0 e'.1 s',e2),jI.mpr ⟨_,hm,by rw[he2];rfl⟩,by rw[pm]⟩
 ·rw[show L.map (·.2)=(live.map (·.2)).filterMap fun i=>es[i]? from hL2 live];simp
end Tb
namespace Tb
open PySem PySem.Spec PySem.SetTable
noncomputable abbrev TK(prog:aS)(w:az):=ng (cq prog w)
noncomputable abbrev hK(prog:aS)(w:az)(ks:List Int):Int:=tupleKeyHash (cq prog w) ks
noncomputable def aej(prog:aS)(w:az)(h:aE)(e:gC)(ks:List Int):Prop:=∃b,e.2.2=.ref b/\da (cq prog w) h ks b/\e.2.1=hK prog w ks
section
variable{prog:aS}{w:az}{A:ba}{E:aa->af->Prop}{s:af}
theorem Fb{n:Nat}{v:aa}(h:p_ v=true):qa n v=pure false:=by
 cases v with
 |ref a=>simp[p_]at h
 |_=>first|rfl|(unfold qa;rfl)
theorem vf{ks:List Int}{b:ae}{Q:Bool->af->Prop}(hk:da (cq prog w) s.heap ks b)(h:Q false s):aw (ay prog w) A (qa 8 (.ref b)) Q E s:=by
 have hT:=hk.typeIs;obtain⟨o,items,n,ho,hc,hd,hi⟩:=hk;unfold qa;refine ah (oa hT ?_);simp only[beq_self_eq_true,if_true];refine ah (aT ?_);simp only[eB,bz,if_false];refine ah (wpAny_seqItems ho hd ?_);refine ah ?_;show aw _ _ (forIn items _ _) _ _ s;rw[<- Array.forIn_toList];refine uS _ (fun rest r s'=>r.1=none/\s'=s/\∀v∈rest,p_ v=true) _ ?_ ?_ _ _ ⟨rfl,rfl,hi.byValue⟩
 ·rintro v rest r s' ⟨hr,rfl,hall⟩;rw[Fb (hall v eR)];refine ah (aT ?_);simp only[bz,if_false];exact aT ⟨rfl,rfl,fun u hu'=>hall u (fv _ hu')⟩
 ·rintro⟨r1,r2⟩ s' ⟨hr,rfl,_⟩;simp only at hr;subst hr;exact aT h
theorem aay{ks:List Int}{b:ae}{Q:Bool->af->Prop}(hk:da (cq prog w) s.heap ks b)(ys:List aa)(hy:∀y∈ys,∃k' b',y=.ref b'/\da (cq prog w) s.heap k' b')(h:Q false s) :
  aw (ay prog w) A (searchCouldBeSeen (.ref b) ys) Q E s:=by
 unfold searchCouldBeSeen;refine ah ?_;refine uS _ (fun rest r s'=>r.1=none/\s'=s/\∀y∈rest,∃k' b',y=.ref b'/\da (cq prog w) s.heap k' b') _ ?_ ?_ _ _ ⟨rfl,rfl,hy⟩
 ·rintro v rest r s' ⟨hr,rfl,hall⟩;obtain⟨k',b',rfl,hk'⟩:=hall v eR;have Oz:∀y∈rest,∃k' b',y=aa.ref b'/\da (cq prog w) s'.heap k' b':=fun y hy=>hall y (fv _ hy);dsimp only;by_cases c:b=b'
  ·subst c;simp only[beq_self_eq_true,Bool.true_or,if_true];exact aT ⟨rfl,rfl,Oz⟩
  ·have hc:(b == b')=false:=by simpa using c
   simp only[hc,p_,sm,u5,bz,if_false];refine ah (wpAny_eqIsQuiet_tuple hk ?_);simp only[eB,bz,if_false];refine ah (wpAny_eqIsQuiet_tuple hk' ?_);simp only[eB,bz,if_false];refine ah (vf hk ?_);simp only[bz,if_false];refine ah (vf hk' ?_);simp only[bz,if_false];exact aT ⟨rfl,rfl,Oz⟩
 ·rintro⟨r1,r2⟩ s' ⟨hr,rfl,_⟩;simp only at hr;subst hr;exact aT h
theorem HY{a:ae}{Q:Bool->af->Prop}(h:Q true s):aw (ay prog w) A (isSame (.ref a) (.ref a)) Q E s:=by unfold isSame;simp only[beq_self_eq_true,if_true];exact aT h
end
section
variable{prog:aS}{w:az}{A:ba}{E:aa->af->Prop}{s:af}
noncomputable abbrev eG(L:List gC)(ep:Nat)(t:b_):Obj:={ cls:=.type "set",dict:=none,data:=.set (L.map (·.2)).toArray ep t }
theorem Good.fits{t:b_}{L:List gC}(g:Good t L)(hl:L.length<=t.mask):t.fits ((L.map (·.2)).toArray).size=true:=by
 unfold ja.fits;have h1:t.fill<=t.mask:=by unfold fill;rw[g.nd,g.sz];simpa using hl
 simp[g.sz,h1]
theorem Good.odd{t:b_}{L:List gC}(g:Good t L):t.gaveWay=false:=by
 obtain⟨k,hk⟩:=g.pw;have h7:=g.m7;unfold gaveWay;cases k with
 |zero=>simp at hk;lia
 |succ k =>
  have:t.mask % 2=1:=by rw[k7]at hk;lia
  simp[this]
theorem KY{a b:ae}{ks:List Int}{L:List gC}{ep:Nat}{t:b_}{f:gC->List Int}{Q:SetFound->af->Prop}(ho:s.heap.get? a=some (eG L ep t))(g:Good t L)(hl:L.length<=t.mask)(hf:∀e∈L,aej prog w s.heap e (f e))
  (hb:da (cq prog w) s.heap ks b) (hu:A.units < bu) (q1:(∃e∈L,f e=ks)->Q (.there none) s)
  (q2:∀j,j<=t.mask->¬zc t j->(∃n,pos t (hK prog w ks) n=j/\∀n',n' < n->∃e'∈L,e'.1=pos t (hK prog w ks) n')->(∀e∈L,f e≠ks)->Q (.free j false) s) :
  ∀(fuel s0 sE:Nat) (KZ:Option Probe),s0<=sE->sE < s0 + fuel->sE < s0 + 10 * turns t.mask->¬zc t (pos t (hK prog w ks) sE)->KZ.getD (t.probeStart (hK prog w ks))=qg t s0 (t.probeStart (hK prog w ks)) ->
   (∀n,n < s0->∃e∈L,e.1=pos t (hK prog w ks) n/\f e≠ks)->aw (ay prog w) A (qc a (.ref b) (hK prog w ks) true fuel KZ) Q E s:=by
 intro fuel
 induction fuel with
 |zero=>intro s0 sE _ h1 h2;lia
 |succ fuel ih =>
  intro s0 sE KZ h1 h2 h2' hE hst hpre;unfold qc;refine ah (kg ho rfl (g.fits hl) ?_);simp only[g.odd,bz,if_false];obtain⟨s2,a1,a2,a3,a4⟩:=Vq g.rise g.nd (fun i=>((((L.map (·.2)).toArray)[i]?).map (·.1)).getD 0) (hK prog w ks) (10 * turns t.mask) s0 sE h1 h2' hE;have hh:∀i (hi:i < L.length),((((L.map (·.2)).toArray)[i]?).map (·.1)).getD 0=L[i].2.1:=fun i hi=>by simp[hi]
  have passed:∀n,n < s2->∃e∈L,e.1=pos t (hK prog w ks) n/\f e≠ks:=fun n hn=>by
   by_cases c:n < s0
   ·exact hpre n c
   ·obtain⟨i,hi,e1,e2⟩:=a3 n (by lia) hn;rw[g.sz]at hi;rw[g.at hi]at e1;rw[hh i hi]at e2;refine⟨L[i],eW hi,e1,fun z=>e2 ?_⟩;obtain⟨b',_,_,e3⟩:=hf _ (eW hi);rw[e3,z]
  rcases a4 with ⟨hne,hp⟩|⟨i,hi,e1,e2,hp⟩
  ·-- an empty slot
   have hp':t.probe (fun i=>((((L.map (·.2)).toArray)[i]?).map (·.1)).getD 0) (hK prog w ks) (KZ.getD (t.probeStart (hK prog w ks)))=some (.empty (pos t (hK prog w ks) s2) none):=by rw[hst];exact hp
   generalize hr:t.probe _ (hK prog w ks) (KZ.getD (t.probeStart (hK prog w ks)))=r;obtain rfl:r=_:=hr.symm.trans hp';simp only;refine aT (q2 _ (Vt t _ _) hne ⟨s2,rfl,fun n hn=>?_⟩ fun e he z=>?_)
   ·obtain⟨e,he,q,_⟩:=passed n hn;exact⟨e,he,q⟩
   ·obtain⟨b',_,_,e3⟩:=hf e he;obtain⟨n,r1,r2⟩:=g.reach e he;rw[e3,z]at r1 r2;by_cases c:n < s2
    ·obtain⟨e',he',q,ne⟩:=passed n c;have:=g.uniq he' he (q.trans r1);subst this;exact ne z
    ·by_cases d:s2 < n
     ·obtain⟨e',he',q⟩:=r2 s2 d;exact hne (g.live.mpr ⟨e',he',q⟩)
     ·obtain rfl:n=s2:=by lia
      exact hne (g.live.mpr ⟨e,he,r1.symm⟩)
  ·-- a key with the same hash
   rw[g.sz]at hi;have e1':=e1;rw[g.at hi]at e1;obtain⟨b',hv,hk',hx⟩:=hf _ (eW hi);have hp':t.probe (fun i=>((((L.map (·.2)).toArray)[i]?).map (·.1)).getD 0) (hK prog w ks) (KZ.getD (t.probeStart (hK prog w ks)))=some (.candidate (pos t (hK prog w ks) s2) i (qg t (s2 + 1) (t.probeStart (hK prog w ks)))):=by rw[hst];exact hp
   generalize hr:t.probe _ (hK prog w ks) (KZ.getD (t.probeStart (hK prog w ks)))=r;obtain rfl:r=_:=hr.symm.trans hp';simp only;have ei:((L.map (·.2)).toArray)[i]?=some (L[i].2.1,.ref b'):=by
    have:((L.map (·.2)).toArray)[i]?=some L[i].2:=by simp[hi]
    rw[this,<- hv]
   have rest:aw (ay prog w) A (do
     let some (_,y):=((L.map (·.2)).toArray)[i]?|unsupported "internal:set-entry"
     let equal <- gc [y] (eqBool y (.ref b))
     let (es',_,t') <- setState a
     if true && equal then return .there none
     let some same:=t'.sameMemory t.moves t.mask|unsupported "set.changed-during-lookup:is-the-new-block-at-the-old-address"
     let still <- match (if same then t'.slot (pos t (hK prog w ks) s2) else .empty) with
      | .live i'=>match es'[i']? with
       |some (_,y')=>do pure (if <- isSame y' y then some i' else none)
       |none=>pure none
      |_=>pure none
     match still with
     |none=>rule "set.search.anew";qc a (.ref b) (hK prog w ks) true fuel none
     |some i'=>if equal then return .there (some i') else qc a (.ref b) (hK prog w ks) true fuel (some (qg t (s2 + 1) (t.probeStart (hK prog w ks))))) Q E s:=by
    rw[ei];simp only;refine ah (fI ((TK prog w).eqBool hu hk' hb ?_));refine ah (kg ho rfl (g.fits hl) ?_);by_cases c:f L[i]=ks
    ·simp only[c,decide_true,Bool.and_self,if_true];exact aT (q1 ⟨_,eW hi,c⟩)
    ·simp only[c,decide_false,nV,bz,if_false];have hsm:t.sameMemory t.moves t.mask=some true:=by unfold sameMemory;simp
     rw[hsm];simp only[if_true];have hsl:t.slot (pos t (hK prog w ks) s2)=.live i:=by rw[<- e1'];exact CJ g.rise (by rw[g.sz];exact hi)
     rw[hsl];simp only[ei];refine ah (HY (ah (aT ?_)));simp only[if_true];have hne:s2≠sE:=fun z=>hE (z▸g.live.mpr ⟨_,eW hi,e1⟩);refine ih (s2 + 1) sE _ (by lia) (by lia) (by lia) hE rfl fun n hn=>?_;by_cases d:n=s2
     ·subst d;exact⟨_,eW hi,e1,c⟩
     ·exact passed n (by lia)
   cases akR:t.led with
   |true=>simp only[eB,bz,if_false];exact rest
   |false =>
    simp only[lh,if_true];refine ah (aay hb _ (fun y hy=>?_) ?_)
    ·obtain⟨e,he,rfl⟩:=dC.mp hy;have he':e∈(L.map (·.2)):=by have:=Array.mem_toList_iff.mp he;have:=(Array.mem_filter.mp this).1;simpa using this
     obtain⟨e0,h0,rfl⟩:=dC.mp he';obtain⟨b2,hv2,hk2,_⟩:=hf e0 h0;exact⟨_,b2,hv2,hk2⟩
    ·simp only[bz,if_false];exact rest
end
section
variable{prog:aS}{w:az}{A:ba}{E:aa->af->Prop}{s:af}
theorem Ia{ks:List Int}{b:ae}{Q:Bool->af->Prop}(hk:da (cq prog w) s.heap ks b)(h:Q true s):aw (ay prog w) A (qf 8 (.ref b)) Q E s:=by
 have hT:=hk.typeIs;obtain⟨o,items,n,ho,hc,hd,hi⟩:=hk;have allI:∀v∈items.toList,∃i t,v=.int i t:=by
  clear hd;generalize items.toList=l at hi
  induction hi with
  |nil=>intro v hv;cases hv
  |cons h1 _ ih =>
   intro v hv;rcases cm.mp hv with rfl|hv
   ·cases v with
    |int i t=>exact⟨i,t,rfl⟩
    |_=>simp[cq,aa.isInt]at h1
   ·exact ih v hv
 unfold qf;refine ah (u6 hT F.slot_tuple_hash.lookup ?_);simp only;refine ah (wpAny_seqItems ho hd ?_);simp only[og];refine ah ?_;rw[<- Array.forIn_toList];refine uS _ (fun rest r s'=>r.1=none/\s'=s/\∀v∈rest,∃i t,v=.int i t) _ ?_ ?_ _ _ ⟨rfl,rfl,allI⟩
 ·rintro v rest r s' ⟨hr,rfl,hall⟩;obtain⟨i,t,rfl⟩:=hall v eR;have:qf 7 (.int i t)=pure true:=by unfold qf;rfl
  rw[this];refine ah (aT ?_);simp only[eB,bz,if_false];exact aT ⟨rfl,rfl,fun u hu'=>hall u (fv _ hu')⟩
 ·rintro⟨r1,r2⟩ s' ⟨hr,rfl,_⟩;simp only at hr;subst hr;exact aT h
noncomputable abbrev yd(w:az):Bool:=w.params.followText "set-order"
noncomputable def dX(prog:aS)(w:az)(U:ae->List Int->Prop)(h:aE)(a:ae)(aY:LL):Prop :=
 ∃(L:List gC) (ep:Nat) (t:b_) (f:Int×aa->List Int),h.get? a=some (eG L ep t)/\Good t L/\L.length * 5 < t.mask * 3/\t.mask < 8192/\(t.plain=true/\t.led=!yd w)/\(∀e∈L,aej prog w h e (f e.2))/\(L.map fun e=>f e.2).Perm aY/\aY.Nodup/\∀e∈L,∀b,e.2.2=.ref b->U b (f e.2)
theorem zf{h h':aE}{a:ae}{L:List gC}{ep:Nat}{t:b_}{ks:List Int}{b:ae}(ho:h.get? a=some (eG L ep t))(hs:ef a h h')(hk:da (cq prog w) h ks b):da (cq prog w) h' ks b:=by
 obtain⟨o,items,n,h1,h2,h3,h4⟩:=hk;have ne:b≠a:=fun z=>by subst z;rw[ho]at h1;cases h1;cases h3
 exact⟨o,items,n,(hs.2 b ne).trans h1,h2,h3,h4⟩
theorem Ib{a:ae}{L L':List gC}{ep:Nat}{t t':b_}{Q:Unit->af->Prop}(ho:s.heap.get? a=some (eG L ep t))(hz:L'.length<=1000000)(h:∀h',ef a s.heap h'->h'.get? a=some (eG L' (ep + 1) t')->Q () { s with heap:=h' }) :
  aw (ay prog w) A (storeSet a (L'.map (·.2)).toArray t') Q E s:=by
 refine wpAny_storeSet_of ho rfl (h _ (ki s.heap a _) ?_) (by rw[d8];simp;lia);have hd:(eG L ep t).data=.set (L.map (·.2)).toArray ep t:=rfl;have:=hV (Obj.putSet (L'.map (·.2)).toArray t') ho (by rw[putSet_of _ _ hd];rfl);rw[putSet_of _ _ hd]at this;exact this
theorem Vv{a:ae}{L:List gC}{ep:Nat}{t:b_}{Q:Unit->af->Prop}(ho:s.heap.get? a=some (eG L ep t))(g:Good t L)(hl:L.length<=t.mask)(h1:1<=L.length)(hz:L.length<=4900)(hp:t.plain=true)
  (h:∀h' L' t',ef a s.heap h'->h'.get? a=some (eG L' (ep + 1) t')->Good t' L'->L'.length * 5 < t'.mask * 3->(t'.mask=7∨t'.mask + 1<=8 * L'.length)/\L'.length * 4<=t'.mask->(t'.plain=true/\t'.led=t.led)->(L'.map (·.2)).Perm (L.map (·.2))->Q () { s with heap:=h' }) :
  aw (ay prog w) A (setRelay a (grown L.length)) Q E s:=by
 have hg:grown L.length=L.length * 4:=by unfold grown;rw[if_neg (by lia)]
 rw[hg];obtain⟨s1,s2,s3,s4⟩:=EY (L.length * 4) (by lia);unfold setRelay;refine ah (kg ho rfl (g.fits hl) ?_);have hsz:¬sizeAbove (L.length * 4) > sizeLine:=by rw[d8];lia
 simp only[hsz,if_false];obtain⟨t',order,L',e1,e2,e3,e4,e5,g',e6,e7⟩:=Rb s1 s2 t.finger (t.movedTo (sizeAbove (L.length * 4) - 1)) t.led t.plain (L.map (·.2)) (by simp;lia);have hlen:L'.length=L.length:=by have:=e7.length_eq;simpa using this
 have er:t.relaid (((L.map (·.2)).toArray).map (·.1)) (L.length * 4)=some (t',order):=by
  unfold relaid;have:((L.map (·.2)).toArray).map (·.1)=((L.map (·.2)).map (·.1)).toArray:=by simp
  rw[this];exact e1
 have main:aw (ay prog w) A (do
   let some (t,order):=t.relaid (((L.map (·.2)).toArray).map (·.1)) (L.length * 4)|unsupported "internal:set-table-without-room"
   let es':=order.filterMap (((L.map (·.2)).toArray)[·]?)
   if es'.size != ((L.map (·.2)).toArray).size then unsupported "internal:set-table-lost-an-element"
   pure (es',t)) (fun r s'=>aw (ay prog w) A (storeSet a r.1 r.2) Q E s') E s:=by
  rw[er];simp only;rw[e6];have:((L'.map (·.2)).toArray.size != ((L.map (·.2)).toArray).size)=false:=by simp[hlen]
  rw[this];simp only[bz,if_false];refine aT ?_;refine Ib (t':=t') ho (by lia) fun h' hs hg=>h h' L' t' hs hg g' (by rw[e2,hlen];lia) ?_ ⟨e4.trans hp,e3⟩ e7;rw[e2,hlen];refine⟨?_,s3⟩;rcases s4 with s4|s4
  ·exact .inl s4
  ·right;lia
 exact ah main
end
section
variable{prog:aS}{w:az}{U:ae->List Int->Prop}{A:ba}{E:aa->af->Prop}{s:af}
theorem dX.len{h:aE}{a:ae}{aY:LL}(x:dX prog w U h a aY):∃(L:List gC) (ep:Nat) (t:b_),h.get? a=some (eG L ep t)/\L.length=aY.length:=by obtain⟨L,ep,t,f,ho,_,_,_,_,_,hp,_⟩:=x;exact⟨L,ep,t,ho,by have:=hp.length_eq;simpa using this⟩
theorem aaz{m:Nat}(h:∃k,m + 1=2 ^ k)(hl:m < 16380):m < 8192:=by
 obtain⟨k,hk⟩:=h;have:k<=13:=Nat.le_of_not_lt fun z=>by
  have:=Nat.pow_le_pow_right (show 0 < 2 by decide) z;rw[<- hk]at this;have e:2 ^ (13 + 1)=16384:=by decide
  lia
 have:=Nat.pow_le_pow_right (show 0 < 2 by decide) this;rw[<- hk]at this;have e:2 ^ 13=8192:=by decide
 lia
theorem vg{m:Nat}(n:Nat)(h:∃k,m + 1=2 ^ k)(lo:2 ^ n < 2 * (m + 1))(hi:m + 1 < 2 ^ (n + 1)):m + 1=2 ^ n:=by obtain⟨k,hk⟩:=h;rw[hk]at lo hi ⊢;have h1:n < k + 1:=(Nat.pow_lt_pow_iff_right (a:=2) (by decide)).mp (by rw[k7 2 k,Nat.mul_comm];exact lo);have h2:k < n + 1:=(Nat.pow_lt_pow_iff_right (a:=2) (by decide)).mp hi;rw[show k=n by lia]
noncomputable def Mk(h:aE)(a:ae):Prop:=∀L ep t,h.get? a=some (eG L ep t)->t.mask=7∨t.mask=31∨t.mask=127∨t.mask=511∨t.mask=2047∨t.mask=8191
theorem Mk.of{h:aE}{a:ae}{L:List gC}{ep:Nat}{t:b_}(ho:h.get? a=some (eG L ep t))(m:t.mask=7∨t.mask=31∨t.mask=127∨t.mask=511∨t.mask=2047∨t.mask=8191):Mk h a:=fun L2 ep2 t2 h2=>by rw[ho]at h2;have:=congrArg Obj.data (et h2);have e:Data.set (L.map (·.2)).toArray ep t=.set (L2.map (·.2)).toArray ep2 t2:=this;injection e with _ _ e;rw[<- e];exact m
theorem La{q:Bool}{a b:ae}{ks:List Int}{aY:LL}{Q:Bool->af->Prop}(hS:dX prog w U s.heap a aY)(hq:q=true->Mk s.heap a)(hn:aY.length < if q then 4900 else 2040)(hb:da (cq prog w) s.heap ks b)(hU:U b ks)(hu:A.units < bu)
  (h:∀h' added,ef a s.heap h'->dX prog w U h' a (if ks∈aY then aY else ks::aY)->(q=true->Mk h' a)->Q added { s with heap:=h' }):aw (ay prog w) A (setAddHashed a (.ref b) (hK prog w ks)) Q E s:=by
 have hS0:=hS;obtain⟨L,ep,t,f,ho,g,room,mb,⟨pl,ld⟩,hf,hp,nd,uu⟩:=hS;have hlen:L.length=aY.length:=by have:=hp.length_eq;simpa using this
 have h7:=g.m7;have hl:L.length<=t.mask:=by lia
 have ajR:t.mask < 8192:=mb;have hn4:aY.length < 4900:=by cases q <;> simp at hn <;> lia
 have self:∀added,(ks∈aY)->Q added s:=fun added hm=>by have:=h s.heap added (ef.refl a s.heap) (by rw[if_pos hm];exact hS0) hq;cases s;exact this
 unfold setAddHashed;refine fI ?_;unfold setAddHashedIn;refine ah (kg ho rfl (g.fits hl) ?_);have hby:byScan (.ref b) (L.map (·.2)).toArray=false:=by simp[byScan,aa.scannable]
 simp only[hby,bz,if_false];obtain⟨e0,he0,hE0⟩:=KQ g.rise (by rw[g.sz];exact hl);obtain⟨k,hk⟩:=g.pw;obtain⟨sE,_,hsE,pE⟩:=aav hk (hK prog w ks) 0 he0;refine ah ?_;unfold setSearch;refine KY (f:=fun e=>f e.2) (Q:=fun r s'=>aw (ay prog w) A (match r with
  | .free slot wasDummy=>_
  |_=>_) Q E s') ho g hl hf hb hu (fun hm=>?_) (fun j hj hnl hr hno=>?_) 100000 0 sE none (eJ _) (by lia) (by unfold turns;lia) (by rw[pE];exact hE0) rfl (fun n hn=>absurd hn (by lia))
 ·obtain⟨e,he,q⟩:=hm;exact aT (self false (hp.mem_iff.mp (dC.mpr ⟨e,he,q⟩)))
 ·have hnk:¬ks∈aY:=fun z=>by obtain⟨e,he,q⟩:=dC.mp (hp.mem_iff.mpr z);exact hno e he q
  obtain⟨p1,g'⟩:=g.put (h:=hK prog w ks) (x:=.ref b) hj hnl hr;simp only;refine ah (kg ho rfl (g.fits hl) ?_);have epl:(t.put j).1.plain=true:=by rw[Ew t g.nd];exact pl
  have emk:(t.put j).1.mask=t.mask:=by rw[Ew t g.nd]
  have eld:(t.put j).1.led=!yd w:=by rw[Ew t g.nd];exact ld
  generalize hpt:t.put j=tp at p1 g' epl emk eld;obtain⟨t',p⟩:=tp;simp only at p1 g' epl emk eld ⊢;simp only[epl,if_true];refine ah (Ia hb ?_);simp only[if_true];have ein:insertAt (L.map (·.2)).toArray p (hK prog w ks,aa.ref b)=((L.take p++(j,hK prog w ks,aa.ref b)::L.drop p).map (·.2)).toArray:=by rw[tQ _ _ (by simpa using p1)];simp[uj,uk]
  rw[ein];generalize hL':L.take p++(j,hK prog w ks,aa.ref b)::L.drop p=L' at g' ⊢;have hlen':L'.length=L.length + 1:=by rw[<- hL'];simp;lia
  have Vw:L'.Perm ((j,hK prog w ks,aa.ref b)::L):=by rw[<- hL'];refine(List.perm_middle).trans ?_;rw[my]
  have hfj:∀e∈L,e.2≠(hK prog w ks,aa.ref b):=fun e he z=>by obtain⟨b',h1,h2,h3⟩:=hf e he;rw[z]at h1;cases h1;exact hno e he (h2.inj hb)
  let f':Int×aa->List Int:=fun x=>if x=(hK prog w ks,aa.ref b) then ks else f x
  have keys:∀{h':aE},ef a s.heap h'->∀e∈L',aej prog w h' e (f' e.2):=fun {h'} hs e he=>by
   rcases cm.mp (Vw.mem_iff.mp he) with z|z
   ·subst z;exact⟨b,rfl,by simp only[f',if_true];exact zf ho hs hb,by simp only[f',if_true]⟩
   ·obtain⟨b',h1,h2,h3⟩:=hf e z;have:f' e.2=f e.2:=by simp only[f'];rw[if_neg (hfj e z)]
    exact⟨b',h1,by rw[this];exact zf ho hs h2,by rw[this];exact h3⟩
  have abY:(L'.map fun e=>f' e.2).Perm (ks::aY):=by
   refine(Vw.map _).trans ?_;simp only[bX,f',if_true];refine h_.cons _ ?_;have:(L.map fun e=>if e.2=(hK prog w ks,aa.ref b) then ks else f e.2)=L.map fun e=>f e.2:=mB fun e he=>by rw[if_neg (hfj e he)]
   rw[this];exact hp
  have nd':(ks::aY).Nodup:=g_.mpr ⟨hnk,nd⟩;have uu':∀e∈L',∀c,e.2.2=.ref c->U c (f' e.2):=fun e he c ec=>by
   rcases cm.mp (Vw.mem_iff.mp he) with z|z
   ·subst z;cases ec;simp only[f',if_true];exact hU
   ·rw[show f' e.2=f e.2 by simp only[f'];rw[if_neg (hfj e z)]];exact uu e z c ec
  refine ah (Ib (t':=t') ho (by lia) fun h1 hs1 ho1=>?_);have hfill:t'.fill=L'.length:=by unfold fill;rw[g'.nd,g'.sz];simp
  have esz:(L.map (·.2)).toArray.size + 1=L'.length:=by simp[hlen']
  cases htf:t'.tooFull with
  |false =>
   simp only[lh,nV,bz,if_false];have hroom:L'.length * 5 < t'.mask * 3:=by unfold tooFull at htf;rw[hfill]at htf;simpa using htf
   refine aT (h h1 true hs1 ?_ ?_)
   ·rw[if_neg hnk];exact⟨L',ep + 1,t',f',ho1,g',hroom,by rw[emk];exact mb,⟨epl,eld⟩,keys hs1,abY,nd',uu'⟩
   ·exact fun z=>.of ho1 (by rw[emk];exact hq z _ _ _ ho)
  |true =>
   simp only[lh,ph,if_true];rw[esz];refine ah (Vv (s:={ s with heap:=h1 }) ho1 g' (by rw[emk];lia) (by lia) (by lia) epl fun h2 L2 t2 hs2 ho2 g2 r2 m2 p2 pm2=>?_);have hv:∀e∈L2,∃e1∈L',e1.2=e.2:=fun e he=>by have:e.2∈L'.map (·.2):=pm2.mem_iff.mp (dC.mpr ⟨e,he,rfl⟩);obtain⟨e1,h1,h2⟩:=dC.mp this;exact⟨e1,h1,h2⟩
   have hl2:L2.length=L'.length:=by have:=pm2.length_eq;simpa using this
   have full:t'.mask * 3<=L'.length * 5:=by unfold tooFull at htf;rw[hfill]at htf;simpa using htf
   rw[emk]at full;obtain⟨m2,m3⟩:=m2;rw[hl2]at m2 m3;have mk:q=true->t2.mask=7∨t2.mask=31∨t2.mask=127∨t2.mask=511∨t2.mask=2047∨t2.mask=8191:=fun z=>by
    rcases hq z _ _ _ ho with e|e|e|e|e|e <;> rw[e]at full room
    ·have:=vg 5 g2.pw (by lia) (by lia);lia
    ·have:=vg 7 g2.pw (by lia) (by lia);lia
    ·have:=vg 9 g2.pw (by lia) (by lia);lia
    ·have:=vg 11 g2.pw (by lia) (by lia);lia
    ·have:=vg 13 g2.pw (by lia) (by lia);lia
    ·lia
   refine aT (h h2 true (hs1.trans hs2) ?_ fun z=>.of ho2 (mk z));rw[if_neg hnk];refine⟨L2,ep + 1 + 1,t2,f',ho2,g2,r2,?_,⟨p2.1,p2.2.trans eld⟩,fun e he=>?_,?_,nd',fun e he c ec=>let ⟨e1,h1,q⟩:=hv e he;by rw[<- q];exact uu' e1 h1 c (by rw[q];exact ec)⟩
   ·cases q with
    |true=>have:=mk rfl;lia
    |false=>simp only[bz,if_false]at hn;exact aaz g2.pw (by lia)
   ·obtain⟨e1,he1,q⟩:=hv e he;obtain⟨b',k1,k2,k3⟩:=keys (hs1.trans hs2) e1 he1;rw[q]at k1 k2 k3;exact⟨b',k1,k2,k3⟩
   ·have:=(pm2.map f')
    rw[gz,gz]at this;exact this.trans abY
theorem Rf{a b:ae}{ks:List Int}{aY:LL}{Q:Bool->af->Prop}(hS:dX prog w U s.heap a aY)(hm:Mk s.heap a)(hn:aY.length < 4900)(hb:da (cq prog w) s.heap ks b)(hU:U b ks)(hu:A.units < bu)
  (h:∀h' added tk,ef a s.heap h'->dX prog w U h' a (if ks∈aY then aY else ks::aY)->Mk h' a->Q added { s with heap:=h',toks:=s.toks + tk }):aw (ay prog w) A (setAdd a (.ref b)) Q E s:=by
 unfold setAdd;refine fI (ah (wpAny_pyHash_tuple hu hb ?_));exact La (q:=true) (s:={ s with toks:=s.toks + (ks.length + 1) }) hS (fun _=>hm) hn hb hU hu fun h' added hs hS' hm'=>h h' added _ hs hS' (hm' rfl)
end
noncomputable def ins(acc:LL)(k:List Int):LL:=if k∈acc then acc else k::acc
noncomputable def bT(l:LL):LL:=l.foldl ins []
theorem aaA(acc:LL)(k:List Int):(ins acc k).length<=acc.length + 1:=by unfold ins;split <;> simp
theorem zj(l:LL):(bT l).length<=l.length:=by
 unfold bT;have:∀(l acc:LL),(l.foldl ins acc).length<=acc.length + l.length:=by
  intro l
  induction l with
  |nil=>intro acc;simp
  |cons a l ih=>intro acc;rw[kR];have:=ih (ins acc a);have:=aaA acc a;simp only[ck];lia
 simpa using this l []
theorem aek(acc:LL)(k:List Int):acc.length<=(ins acc k).length:=by unfold ins;split <;> simp
theorem xu(l:LL)(k:List Int):bT (l++[k])=ins (bT l) k:=by unfold bT;rw[List.foldl_append];rfl
theorem CK(l:LL):∀m,(bT l).length<=(bT (l++m)).length
 | []=>by simp
 |x::m=>by have:=CK (l++[x]) m;rw[eP,List.singleton_append]at this;exact cx (by rw[xu];exact aek _ _) this
section
variable{prog:aS}{w:az}{U:ae->List Int->Prop}{A:ba}{R:Result->af->Prop}{I:ae}{fp wr:List ae}{G:Array kD->Array kD->Prop}{n:Nat}{P:Nat->aa->Prop}{St:Nat->af->Prop}
theorem dX.moved{h h':aE}{a:ae}{aY:LL}(x:dX prog w U h a aY)(k:∀b o,(b=a∨∃ks,da (cq prog w) h ks b)->h.get? b=some o->h'.get? b=some o):dX prog w U h' a aY:=by obtain⟨L,ep,t,f,ho,g,room,mb,pl,hf,hp,nd⟩:=x;refine⟨L,ep,t,f,k _ _ (.inl rfl) ho,g,room,mb,pl,fun e he=>?_,hp,nd⟩;obtain⟨b,h1,h2,h3⟩:=hf e he;have h2':=h2;obtain⟨o,items,m,q1,q2,q3,q4⟩:=h2;exact⟨b,h1,⟨o,items,m,k _ _ (.inr ⟨_,h2'⟩) q1,q2,q3,q4⟩,h3⟩
theorem Mk.moved{h h':aE}{a:ae}{aY:LL}(x:dX prog w U h a aY)(m:Mk h a)(k:∀o,h.get? a=some o->h'.get? a=some o):Mk h' a:=by obtain⟨L,ep,t,ho,_⟩:=x.len;exact .of (k _ ho) (m _ _ _ ho)
theorem Vx{h:aE}{b c:ae}{ks:List Int}{o:Obj}(hk:da (cq prog w) h ks b)(hc:h.get? c=some o)(hd:∀xs m,o.data≠.seq xs m):b≠c:=fun z=>by subst z;obtain⟨o',items,m,q1,q2,q3,q4⟩:=hk;rw[hc]at q1;cases q1;exact hd _ _ q3
theorem abZ(W:WalksS prog w A.in1 I fp wr G n P St)(D:ae)(hDf:D∉fp)(hu:A.in1.units < bu)(ks:Nat->List Int)(hn:(bT ((bS n).map ks)).length < 4900)(hwt:∀i s,St i s->∀b∈wr,∀o,s.heap.get? b=some o->∀xs m,o.data≠.seq xs m) :
  ∀(k i:Nat) (s:af),n - i=k->i<=n->St i s->(∀j v,P j v->∃b,v=.ref b/\b∉wr/\da (cq prog w) s.heap (ks j) b/\U b (ks j)) ->
   dX prog w U s.heap D (bT ((bS i).map ks))->Mk s.heap D ->
   (∀s',Moved (D::wr) G s s'->dX prog w U s'.heap D (bT ((bS n).map ks))->R (.ok (.ret .none)) s') ->
   i4 (ay prog w) A (.builtin "set.update.loop" ⟨[.ref D,.ref I],[]⟩) R s:=by
 have hDw:D∉wr:=fun h=>hDf (W.sub _ h);have sub:∀b∈wr,b∈D::wr:=fun b hb=>fv _ hb;intro k
 induction k with
 |zero =>
  intro i s hk hi st hP hS hMk hR;have hw:=hwt i s st;obtain rfl:i=n:=by lia
  refine ko PyProof.Rows.F.entry_set_update_loop ?_;rw[lj u7 _];show aw _ A.in1 (gd (.ref I) >>= _) _ _ s;refine ah (W.done s _ _ st fun s1 hm=>?_);show aw _ A.in1 (ret aa.none) _ _ s1;refine aT (hR s1 (hm.mono sub) (hS.moved fun b o hb e=>hm.heap b o (fun hbw=>?_) e));rcases hb with rfl|⟨k',hk'⟩
  ·exact hDw hbw
  ·exact Vx hk' e (hw b hbw o e) rfl
 |succ k ih =>
  intro i s hk hi st hP hS hMk hR;have hw:=hwt i s st;refine ko PyProof.Rows.F.entry_set_update_loop ?_;rw[lj u7 _];show aw _ A.in1 (gd (.ref I) >>= _) _ _ s;refine ah (W.item i s _ _ (by lia) st fun v s1 hv st1 hm=>?_);have nw:∀b o,(b=D∨∃k',da (cq prog w) s.heap k' b)->s.heap.get? b=some o->b∉wr:=fun b o hb e hbw=>by
   rcases hb with rfl|⟨k',hk'⟩
   ·exact hDw hbw
   ·exact Vx hk' e (hw b hbw o e) rfl
  have key1:∀{b:ae}{k':List Int},da (cq prog w) s.heap k' b->da (cq prog w) s1.heap k' b:=fun {b k'} hk'=>by have hk0:=hk';obtain⟨o,items,m,q1,q2,q3,q4⟩:=hk';exact⟨o,items,m,hm.heap b o (nw b o (.inr ⟨_,hk0⟩) q1) q1,q2,q3,q4⟩
  have hS1:dX prog w U s1.heap D (bT ((bS i).map ks)):=hS.moved fun b o hb e=>hm.heap b o (nw b o hb e) e;obtain⟨b,rfl,hbw,hbk,hbU⟩:=hP i v hv;show aw _ A.in1 (gc [aa.ref b] (setAdd D (.ref b)) >>= _) _ _ s1;have hlen:(bT ((bS i).map ks)).length < 4900:=by
   have e:bS n=bS i++(bS (n - i)).map (i + ·):=by rw[<- List.range_add];congr 1;lia
   rw[e,iL]at hn;exact ir (CK _ _) hn
  refine ah (fI (Rf hS1 (hMk.moved hS fun o e=>hm.heap D o hDw e) hlen (key1 hbk) hbU hu fun h2 added tk hs2 hS2 aiS=>?_));have hS2':dX prog w U h2 D (bT ((bS (i + 1)).map ks)):=by rw[List.range_succ,iL,List.map_singleton,xu];exact hS2
  obtain⟨L1,ep1,t1,ho1,_⟩:=hS1.len;refine aT ⟨mE u7 _,ih (i + 1) _ (by lia) (by lia) (W.frame _ s1 _ _ st1 (qh _ _) fun b hb o e=>?_) (fun j v hv=>?_) hS2' aiS fun s3 hm3 hS3=>?_⟩
  ·rw[hs2.2 b (fun z:b=D=>hDf (z▸hb))];exact e
  ·obtain⟨b,rfl,q1,q2,q3⟩:=hP j v hv;exact⟨b,rfl,q1,zf ho1 hs2 (key1 q2),q3⟩
  ·refine hR s3 (Moved.trans W.gtrans ((hm.mono sub).then_heap (qh _ _) fun b o hb e=>?_) hm3) hS3;rw[hs2.2 b (fun z:b=D=>hb (by rw[z];exact eR))];exact e
end
section
variable{prog:aS}{w:az}{A:ba}{E:aa->af->Prop}{s:af}
noncomputable abbrev dJ(led:Bool):Obj:={ cls:=.type "set",dict:=none,data:=.set #[] 0 (.fresh 0 0 led) }
theorem Vy(v:aa){Q₁:aa->af->Prop}(h:Q₁ (.ref s.heap.objs.size) { s with heap:=s.heap.push (dJ (!yd w)) }) :
  i4 (ay prog w) A (.call (.builtin "set.__new__") ⟨[.type "set",v],[]⟩) (wants Q₁ E) s:=by
 refine codeAny_of_tree ?_;show aw _ A.in1 (do { checkBuiltinCall "set.__new__" ⟨[.type "set",v],[]⟩;again (.builtin "set.__new__" ⟨[.type "set",v],[]⟩) }) _ _ s;refine ah (u_ (F.newCall_set_1 v) (aT ⟨mE F.plain_set_new _,ko F.entry_set_new ?_⟩));rw[lj F.plain_set_new _];have e:=sub_set_self;obtain⟨hp,g,d,tk,os⟩:=s;unfold Builtin.«set.__new__» cE.Frozenset.newClass;dsimp only
 wp_walk
 refine oi (aT ?_);simp only[newObj];exact ah (wpAny_alloc (aT (aT h)))
theorem Ie{v:aa}{Q:aa->af->Prop}
  (hup:aw (ay prog w) A.in1.in1 (mI "set.__init__" s.heap.objs.size v) (fun _ s2=>Q (.ref s.heap.objs.size) s2) E { s with heap:=s.heap.push (dJ (!yd w)) }) :
  aw (ay prog w) A (call (.type "set") [v]) Q E s:=by
 obtain⟨cc,tl,hmro⟩:=kq.mro;have hmade:=kq.made;have hsub:=kq.sub;have nt:=kq.notType;have cc:=kq.canCreate;have tc:=F.typeCall_set_1 v;refine pj (codeAny_of_tree ?_);show aw _ _ (callAny (.type "set") _) _ _ _;refine aT ⟨Code.quiet_builtin _ (by decide+kernel),ko F.entry_type_call ?_⟩;rw[ba.under_plain (weight_type_call_type "set" [v] []) rfl]
 repeat (any_goals (first|assumption|wp_step))
 refine kQ (Vy v (E:=E) (Q₁:=fun obj s1=>obj=.ref s.heap.objs.size/\s1={ s with heap:=s.heap.push (dJ (!yd w)) }) ⟨rfl,rfl⟩) fun r s1 hr=>?_;cases r with
 |error e=>exact hr
 |ok fl =>
  cases fl with
  |ret obj =>
   obtain⟨e1,e2⟩:=hr;subst e1 e2;have hget:(s.heap.push (dJ (!yd w))).get? s.heap.objs.size=some (dJ (!yd w)):=dA _ rfl;have hty:va { s with heap:=s.heap.push (dJ (!yd w)) } (.ref s.heap.objs.size) "set":=⟨_,hget,rfl⟩
   have li:=kq.init.lookup;have bi:=kq.init.bind (.ref s.heap.objs.size)
   repeat (any_goals (first|assumption|wp_step))
   refine kQ (codeAny_call_builtin (R:=wants (fun r s2=>r=.none/\Q (.ref s.heap.objs.size) s2) E) kq.init.plain F.entry_set_init (check_set_init_1 hty ?_)) fun r2 s2 hr2=>?_
   ·unfold Builtin.«set.__init__» noKeywords;have hu:=hup;generalize hU:mI=U at hu ⊢
    wp_walk
    exact d6 hu (fun _ s2 hq=>aT ⟨rfl,hq⟩) fun _ _ x=>x
   ·cases r2 with
    |error e=>exact hr2
    |ok fl2 =>
     cases fl2 with
     |ret r =>
      obtain⟨rfl,hq⟩:=hr2
      repeat (any_goals (first|assumption|wp_step))
     |_=>exact hr2.elim
  |_=>exact hr.elim
end
namespace F
theorem sub_tuple_set:isSubtype (.type "tuple") (.type "set")=pure false:=by rw[lr];kernel_rfl
theorem sub_tuple_frozenset:isSubtype (.type "tuple") (.type "frozenset")=pure false:=by rw[lr];kernel_rfl
end F
section
variable{prog:aS}{w:az}{U:ae->List Int->Prop}{A:ba}{E:aa->af->Prop}{s:af}
theorem aaB{h:aE}{D:ae}(ho:h.get? D=some (dJ (!yd w))):dX prog w U h D []:=by
 have no:∀(e:gC) (p:Prop),e∈([]:List gC)->p:=fun e p he=>by cases he
 exact⟨[],0,.fresh 0 0 (!yd w),fun _=>[],ho,⟨⟨3,rfl⟩,bE 7,rfl,rfl,nN.nil,fun e he=>no e _ he,fun e he=>no e _ he⟩,(show 0 < 21 by decide),(show(7:Nat) < 8192 by decide),⟨rfl,rfl⟩,fun e he=>no e _ he,h_.refl _,vb,fun e he=>no e _ he⟩
theorem Vz{h:aE}{D:ae}(ho:h.get? D=some (dJ (!yd w))):Mk h D:=.of (L:=[]) (ep:=0) (t:=.fresh 0 0 (!yd w)) ho (.inl rfl)
theorem Ig{l D:ae}{items:Array aa}{aY:LL}{Q:Unit->af->Prop}(hh:A.handled=none)(hu:A.units + 2 < bu)(hl:s.heap.IsList l items)(hS:dX prog w U s.heap D [])(hMk:Mk s.heap D)(hlD:l≠D)(hz:(bT aY).length < 4900)
  (hk:∀(i:Nat) v,items[i]?=some v->∃b,v=.ref b/\da (cq prog w) s.heap (aY.getD i []) b/\U b (aY.getD i [])) (hlen:aY.length=items.size)
  (h:∀h' tk,(∀b o,b≠D->s.heap.get? b=some o->h'.get? b=some o)->dX prog w U h' D (bT aY)->Q () { s with heap:=h',toks:=tk }) :
  aw (ay prog w) A (mI "set.__init__" D (.ref l)) Q E s:=by
 have hl0:=hl;have er:(bS items.size).map (fun i=>aY.getD i [])=aY:=by
  rw[<- hlen];apply ls
  ·simp
  ·intro i h1 h2;simp at h1;simp[oj,h1]
 obtain⟨ol,hol,hcl,nl,hdl⟩:=hl;obtain⟨oc,od,odt,osl⟩:=ol;simp only at hcl hdl;subst hcl hdl;have e1:=F.sub_list_set;have e2:=F.sub_list_frozenset;have e3:(aa.type "list" == aa.type "dict")=false:=by decide
 unfold mI;generalize hPI:kH=PI
 wp_walk
 subst hPI;refine wpAny_pyIter_list hl0 ?_;refine ah (qi ?_);have hlt:l < s.heap.objs.size:=bP hol;obtain⟨L0,ep0,t0,hD0,_⟩:=hS.len;have wH:D < s.heap.objs.size:=bP hD0;have push:∀b o,s.heap.get? b=some o->(s.heap.push { cls:=.type "list_iterator",data:=.fields #[.ref l,.int 0 0] }).get? b=some o:=fun b o e=>cy _ e;have W:=(Walks.list (prog:=prog) (w:=w) (A:=A.in1) (by simpa using hh) s.heap.objs.size l (cv hlt) items).toS;refine abZ W D (fun z=>?_) (by show A.units + 1 < bu;lia) (fun i=>aY.getD i []) (by rw[er];exact hz) (fun i s' st b hb o e xs m=>?_) (items.size - 0) 0 _ rfl (eJ _) ⟨⟨_,dA _ rfl,rfl,rfl⟩,hl0.push _⟩ (fun j v hv=>?_) (hS.moved fun b o _ e=>push b o e) (hMk.moved hS fun o e=>push D o e) fun s' hm hS'=>?_
 ·simp only[cm,f9,or_false]at z;rcases z with z|z
  ·exact absurd z (cv wH)
  ·exact hlD z.symm
 ·obtain rfl:b=s.heap.objs.size:=by simpa using hb
  obtain⟨⟨o',h1,h2,h3⟩,_⟩:=st;rw[e]at h1;cases h1;rw[h3];intro z;cases z
 ·obtain⟨b,rfl,hb,hU⟩:=hk j v hv;have hb0:=hb;obtain⟨o,its,m,q1,q2,q3,q4⟩:=hb;refine⟨b,rfl,?_,⟨o,its,m,push _ _ q1,q2,q3,q4⟩,hU⟩;simp only[cm,f9,or_false];exact cv (bP q1)
 ·obtain⟨h',g',d',tk',os'⟩:=s';have eg:g'=s.gens:=hm.gens;have ed:d'=s.drawn:=hm.drawn;have eo:os'=s.os:=hm.os;subst eg ed eo;rw[er]at hS';refine aT (h h' tk' (fun b o hb e=>hm.heap b o ?_ (push b o e)) hS');simp only[cm,f9,or_false,not_or];exact⟨hb,cv (bP e)⟩
theorem Fd{l D:ae}{items:Array aa}{aY:LL}{Q:Unit->af->Prop}(hh:A.handled=none)(hu:A.units + 2 < bu)(hl:s.heap.IsTuple l items)(hS:dX prog w U s.heap D [])(hMk:Mk s.heap D)(hlD:l≠D)(hz:(bT aY).length < 4900)
  (hk:∀(i:Nat) v,items[i]?=some v->∃b,v=.ref b/\da (cq prog w) s.heap (aY.getD i []) b/\U b (aY.getD i [])) (hlen:aY.length=items.size)
  (h:∀h' tk,(∀b o,b≠D->s.heap.get? b=some o->h'.get? b=some o)->dX prog w U h' D (bT aY)->Q () { s with heap:=h',toks:=tk }) :
  aw (ay prog w) A (mI "set.__init__" D (.ref l)) Q E s:=by
 have hl0:=hl;have er:(bS items.size).map (fun i=>aY.getD i [])=aY:=by
  rw[<- hlen];apply ls
  ·simp
  ·intro i h1 h2;simp at h1;simp[oj,h1]
 obtain⟨ol,hol,hcl,nl,hdl⟩:=hl;obtain⟨oc,od,odt,osl⟩:=ol;simp only at hcl hdl;subst hcl hdl;have e1:=F.sub_tuple_set;have e2:=F.sub_tuple_frozenset;have e3:(aa.type "tuple" == aa.type "dict")=false:=by decide
 unfold mI;generalize hPI:kH=PI
 wp_walk
 subst hPI;refine wpAny_pyIter_tuple hl0 ?_;refine ah (qi ?_);have hlt:l < s.heap.objs.size:=bP hol;obtain⟨L0,ep0,t0,hD0,_⟩:=hS.len;have wH:D < s.heap.objs.size:=bP hD0;have push:∀b o,s.heap.get? b=some o->(s.heap.push { cls:=.type "tuple_iterator",data:=.fields #[.ref l,.int 0 0] }).get? b=some o:=fun b o e=>cy _ e;have W:=(Walks.tuple (prog:=prog) (w:=w) (A:=A.in1) (by simpa using hh) s.heap.objs.size l (cv hlt) items).toS;refine abZ W D (fun z=>?_) (by show A.units + 1 < bu;lia) (fun i=>aY.getD i []) (by rw[er];exact hz) (fun i s' st b hb o e xs m=>?_) (items.size - 0) 0 _ rfl (eJ _) ⟨⟨_,dA _ rfl,rfl,rfl⟩,hl0.push _⟩ (fun j v hv=>?_) (hS.moved fun b o _ e=>push b o e) (hMk.moved hS fun o e=>push D o e) fun s' hm hS'=>?_
 ·simp only[cm,f9,or_false]at z;rcases z with z|z
  ·exact absurd z (cv wH)
  ·exact hlD z.symm
 ·obtain rfl:b=s.heap.objs.size:=by simpa using hb
  obtain⟨⟨o',h1,h2,h3⟩,_⟩:=st;rw[e]at h1;cases h1;rw[h3];intro z;cases z
 ·obtain⟨b,rfl,hb,hU⟩:=hk j v hv;have hb0:=hb;obtain⟨o,its,m,q1,q2,q3,q4⟩:=hb;refine⟨b,rfl,?_,⟨o,its,m,push _ _ q1,q2,q3,q4⟩,hU⟩;simp only[cm,f9,or_false];exact cv (bP q1)
 ·obtain⟨h',g',d',tk',os'⟩:=s';have eg:g'=s.gens:=hm.gens;have ed:d'=s.drawn:=hm.drawn;have eo:os'=s.os:=hm.os;subst eg ed eo;rw[er]at hS';refine aT (h h' tk' (fun b o hb e=>hm.heap b o ?_ (push b o e)) hS');simp only[cm,f9,or_false,not_or];exact⟨hb,cv (bP e)⟩
theorem Fe{l:ae}{items:Array aa}{aY:LL}{Q:aa->af->Prop}(hh:A.handled=none)(hu:A.units + 8 < bu)(hl:s.heap.IsList l items∨s.heap.IsTuple l items)(hz:(bT aY).length < 4900)
  (hk:∀(i:Nat) v,items[i]?=some v->∃b,v=.ref b/\da (cq prog w) s.heap (aY.getD i []) b/\U b (aY.getD i [])) (hlen:aY.length=items.size)
  (h:∀h' tk,(∀b o,s.heap.get? b=some o->h'.get? b=some o)->dX prog w U h' s.heap.objs.size (bT aY)->Q (.ref s.heap.objs.size) { s with heap:=h',toks:=tk }) :
  aw (ay prog w) A (call (.type "set") [.ref l]) Q E s:=by
 refine Ie ?_;have push:∀b o,s.heap.get? b=some o->(s.heap.push (dJ (!yd w))).get? b=some o:=fun b o e=>cy _ e;have hlt:l < s.heap.objs.size:=by rcases hl with ⟨o,e,_⟩|⟨o,e,_⟩ <;> exact bP e
 have hk':∀(i:Nat) v,items[i]?=some v->∃b,v=.ref b/\da (cq prog w) (s.heap.push (dJ (!yd w))) (aY.getD i []) b/\U b (aY.getD i []):=fun i v hv=>by obtain⟨b,e,⟨o,its,m,q1,q2,q3,q4⟩,hU⟩:=hk i v hv;exact⟨b,e,⟨o,its,m,push _ _ q1,q2,q3,q4⟩,hU⟩
 have hS:dX prog w U (s.heap.push (dJ (!yd w))) s.heap.objs.size []:=aaB (dA _ rfl);have fQ:∀h' tk,(∀b o,b≠s.heap.objs.size->(s.heap.push (dJ (!yd w))).get? b=some o->h'.get? b=some o)->dX prog w U h' s.heap.objs.size (bT aY)->Q (.ref s.heap.objs.size) { s with heap:=h',toks:=tk }:=fun h' tk k hS' =>
  h h' tk (fun b o e=>k b o (cv (bP e)) (push b o e)) hS'
 rcases hl with hl|hl
 ·exact Ig (s:={ s with heap:=s.heap.push (dJ (!yd w)) }) (by simpa using hh) (by show A.units + 1 + 1 + 2 < bu;lia) (hl.push _) hS (Vz (w:=w) (dA _ rfl)) (cv hlt) hz hk' hlen fQ
 ·exact Fd (s:={ s with heap:=s.heap.push (dJ (!yd w)) }) (by simpa using hh) (by show A.units + 1 + 1 + 2 < bu;lia) (hl.push _) hS (Vz (w:=w) (dA _ rfl)) (cv hlt) hz hk' hlen fQ
end
end Tb
namespace Tb
open PySem PySem.Spec PySem.SetTable
theorem zm{α:Type}:∀{l:List α}{n:Nat}(h:n < l.length),(l[n]::l.eraseIdx n).Perm l
 |a::l,0,_=>by simp
 |a::l,n + 1,h=>by have ih:=zm (l:=l) (n:=n) (by simpa using h);simp only[List.getElem_cons_succ,qk];exact(h_.swap ..).trans (ih.cons a)
theorem aaC{α:Type}(next:Nat->Nat):∀(fuel k:Nat) (left:List α) (out:Array α),left.length<=fuel->(vc next fuel k left out).toList.Perm (out.toList++left):=by
 intro fuel
 induction fuel with
 |zero =>
  intro k left out h;obtain rfl:left=[]:=mM.mp (by lia);unfold vc;simp
 |succ fuel ih =>
  intro k left out h;unfold vc;cases left with
  |nil=>simp
  |cons a l =>
   have hlt:next k % (a::l).length < (a::l).length:=mv _ (by simp);rw[d9 hlt];simp only;have hlen:((a::l).eraseIdx (next k % (a::l).length)).length<=fuel:=by rw[List.length_eraseIdx_of_lt hlt];simp only[ck]at h ⊢;lia
   refine(ih (k + 1) _ _ hlen).trans ?_;rw[p7,eP];exact om _ (zm hlt)
theorem Rg{α:Type}(next:Nat->Nat)(xs:Array α):(ve next xs).toList.Perm xs.toList:=by unfold ve;simpa using aaC next xs.size 0 xs.toList #[] (by simp)
noncomputable def nJ(w:az)(D:ae)(ep:Nat)(L:List gC):Array (Int×aa):=if yd w=true then ve (w.params.setOrder D ep) (L.map (·.2)).toArray else (L.map (·.2)).toArray
theorem CN(w:az)(D:ae)(ep:Nat)(L:List gC):(nJ w D ep L).toList.Perm (L.map (·.2)):=by
 unfold nJ;split
 ·simpa using Rg (w.params.setOrder D ep) (L.map (·.2)).toArray
 ·exact .refl _
theorem sy(w:az)(D:ae)(ep:Nat)(L:List gC):(nJ w D ep L).size=L.length:=by have:=(CN w D ep L).length_eq;simpa using this
structure Lies (t:b_)(L:List gC):Prop where
 pl:t.place=(L.map (·.1)).toArray
 so:(L.map (·.1)).Pairwise (· < ·)
 fl:t.fill<=t.mask
theorem Lies.sz{t:b_}{L:List gC}(g:Lies t L):t.place.size=L.length:=by rw[g.pl];simp
theorem Lies.at{t:b_}{L:List gC}(g:Lies t L){i:Nat}(hi:i < L.length):t.place.getD i 0=L[i].1:=by rw[g.pl];simp[hZ,hi]
theorem Lies.rise{t:b_}{L:List gC}(g:Lies t L):za t.place:=by intro a b hab hb;rw[g.sz]at hb;rw[g.at (show a < L.length by lia),g.at hb];have:=(k_.mp g.so) a b (by simpa using(show a < L.length by lia)) (by simpa using hb) hab;simpa using this
theorem Lies.fits{t:b_}{L:List gC}(g:Lies t L)(hl:L.length<=t.mask):t.fits ((L.map (·.2)).toArray).size=true:=by unfold ja.fits;have h1:=g.fl;simp[g.sz,h1]
theorem Good.lies{t:b_}{L:List gC}(g:Good t L)(hl:L.length<=t.mask):Lies t L:=⟨g.pl,g.so,by unfold fill;rw[g.nd,g.sz];simpa using hl⟩
noncomputable def iC(w:az)(t:b_)(i:Nat):Nat:=if yd w=true then 0 else if i=0 then 0 else t.place.getD (i - 1) 0 + 1
section
variable{prog:aS}{w:az}{A:ba}{E:aa->af->Prop}{s:af}
theorem OD{D:ae}{L:List gC}{ep:Nat}{t:b_}{i:Nat}{Q:Option (aa×Nat)->af->Prop}(ho:s.heap.get? D=some (eG L ep t))(g:Lies t L)(hl:L.length<=t.mask)(pl:t.plain=true)(ld:t.led=!yd w)(hi:i<=L.length)
  (h:Q (((nJ w D ep L)[i]?).map fun e=>(e.2,iC w t (i + 1))) s):aw (ay prog w) A (setNext D (iC w t i) i ep) Q E s:=by
 unfold setNext;refine ah (kg ho rfl (g.fits hl) ?_);unfold setsByText;refine ah (ah (oi (aT ?_)));cases hb:yd w with
 |true =>
  have hb':((ay prog w).w.params.followText "set-order")=true:=hb;simp only[hb',if_true,bne_self_eq_false,bz,if_false];unfold setWalk setsByText;refine ah (ah (kg ho rfl (g.fits hl) ?_));refine ah (ah (oi (aT ?_)));simp only[hb',if_true];refine ah (oi (aT (aT ?_)));unfold nJ iC at h;simp only[hb,if_true]at h;simp only[iC,hb,if_true];exact h
 |false =>
  have hb':((ay prog w).w.params.followText "set-order")=false:=hb;simp only[hb',bz,if_false];rw[hb]at ld;have hbl:below t.place (iC w t i)=i:=by
   unfold iC;rw[hb];simp only[bz,if_false];obtain⟨b1,b2,b3⟩:=uq g.rise (if i=0 then 0 else t.place.getD (i - 1) 0 + 1);by_cases c:i=0
   ·subst c;simp only[if_true]at b2 ⊢;cases hz:below t.place 0 with
    |zero=>rfl
    |succ n=>have:=b2 0 (by lia);lia
   ·rw[if_neg c]at b1 b2 b3 ⊢;have him:i - 1 < t.place.size:=by rw[g.sz];lia
    have c1:¬below t.place (t.place.getD (i - 1) 0 + 1) < i:=fun z=>by have:=b3 (i - 1) (by lia) him;lia
    have c2:¬i < below t.place (t.place.getD (i - 1) 0 + 1):=fun z=>by have h1:=b2 i z;have h2:=g.rise (i - 1) i (by lia) (by lia);lia
    lia
  have fQ:aw (ay prog w) A (pure (match ((L.map (·.2)).toArray)[below t.place (iC w t i)]?,t.place[below t.place (iC w t i)]? with
    |some (_,x),some j=>some (x,j + 1)
    |_,_=>none):Sem (Option (aa×Nat))) Q E s:=by
   rw[hbl];refine aT ?_;unfold nJ iC at h;simp only[hb,bz,if_false,Nat.add_eq_zero_iff,vi,and_false,Nat.add_sub_cancel]at h;by_cases c:i < L.length
   ·have e1:((L.map (·.2)).toArray)[i]?=some L[i].2:=by simp[c]
    have e2:t.place[i]?=some (t.place.getD i 0):=HN (by rw[g.sz];exact c);rw[e1]at h ⊢;rw[e2];exact h
   ·have e1:((L.map (·.2)).toArray)[i]?=none:=by simp;lia
    rw[e1]at h ⊢;exact h
  have hdr:∀c:Bool,(!t.plain && c)=false:=fun c=>by rw[pl];rfl
  have hld:∀c:Bool,(!t.led && c)=false:=fun c=>by rw[ld];rfl
  have drop:∀{c:Bool}{x y:Sem (Option (aa×Nat))},c=false->aw (ay prog w) A y Q E s->aw (ay prog w) A (if c=true then x else y) Q E s:=fun {c x y} hc hy=>by rw[hc];exact hy
  refine drop (hdr _) ?_;refine ah ?_;show aw _ _ (if (!t.led && !((L.map (·.2)).toArray).isEmpty)=true then unsupported "set:maker-not-led" else pure ()) _ _ _;rw[hld];exact aT fQ
end
theorem fV:Slot "set_iterator" "__next__" "set_iterator.__next__" :=
 .of (owner:="set_iterator") (n:="__next__") (by rw[vj,vk];kernel_rfl) (by decide+kernel) (by decide+kernel) (by decide+kernel) (by first|exact .inl (by decide+kernel)|exact .inr (by decide+kernel)) (by rw[lr];kernel_rfl)
theorem qO:entryFor table "set_iterator.__next__"=some Builtin.«set_iterator.__next__»:=entryFor_of_tree (by kernel_rfl)
theorem tR(a:aa):argsOk "set_iterator.__next__" ⟨[a],[]⟩:=by unfold argsOk;kernel_rfl
theorem Fg:entryFor table "set.__iter__"=some Builtin.«frozenset.__iter__»:=entryFor_alias (id':="frozenset.__iter__") (by kernel_rfl) rfl (by decide+kernel) (by kernel_rfl)
theorem tU:Slot "set_iterator" "__iter__" "set_iterator.__iter__" :=
 .of (owner:="set_iterator") (n:="__iter__") (by rw[vj,vk];kernel_rfl) (by decide+kernel) (by decide+kernel) (by decide+kernel) (by first|exact .inl (by decide+kernel)|exact .inr (by decide+kernel)) (by rw[lr];kernel_rfl)
theorem zp:entryFor table "set_iterator.__iter__"=some Builtin.«dict_keyiterator.__iter__»:=entryFor_alias (id':="dict_keyiterator.__iter__") (by kernel_rfl) rfl (by decide+kernel) (by kernel_rfl)
theorem Br(a:aa):argsOk "set_iterator.__iter__" ⟨[a],[]⟩:=by unfold argsOk;kernel_rfl
noncomputable def fG(w:az)(t:b_)(D:ae)(n ep i:Nat):Obj:={ cls:=.type "set_iterator",data:=.fields #[cz (iC w t i),cz i,.ref D,cz n,cz ep] }
section
variable{prog:aS}{w:az}{A:ba}{E:aa->af->Prop}{s:af}{D I:ae}{L:List gC}{ep:Nat}{t:b_}
structure Goes (w:az)(L:List gC)(t:b_):Prop where
 g:Lies t L
 hl:L.length<=t.mask
 pl:t.plain=true
 ld:t.led=!yd w
theorem VB{Q:aa->af->Prop}(ho:s.heap.get? D=some (eG L ep t))(g:Goes w L t)(h:Q (.ref s.heap.objs.size) { s with heap:=s.heap.push (fG w t D L.length ep 0) }):aw (ay prog w) A (kH (.ref D)) Q E s:=by
 have hT:s.TypeIs (.ref D) "set":=⟨_,ho,rfl⟩
 refine vn hT F.slot_set_iter (ku F.slot_set_iter hT Fg ?_ (F.args_set_iter_1 _));unfold Builtin.«frozenset.__iter__» cE.Frozenset.slot0 cE.Frozenset.sizeOf cE.Frozenset.addrOf;simp only[slotArgs,vt,eB,bz,if_false,d4,bne_self_eq_false];refine ah (ah (aT (aT ?_)));refine ah (ah (vw ho rfl (g.g.fits g.hl) (aT ?_)));have hdr:aw (ay prog w) A.in1 (setDrawn D) (fun b s'=>b=false/\s'=s) E s:=by unfold setDrawn setsByText;refine ah (kg ho rfl (g.g.fits g.hl) ?_);refine ah (ah (oi (aT (aT ⟨?_,rfl⟩))));show(_ && (!t.plain && _))=false;rw[g.pl];simp
 refine ah (d6 hdr (fun b s' hb=>?_) fun _ _ z=>z);obtain⟨rfl,rfl⟩:=hb;simp only[bz,if_false];refine ah (aT ?_);refine ah (wpAny_setEpoch_of ho rfl (g.g.fits g.hl) ?_);have e0:iC w t 0=0:=by unfold iC;simp
 have eo:(fG w t D L.length ep 0)={ cls:=.type "set_iterator",data:=.fields ([cz 0,cz 0,aa.ref D,cz ((L.map (·.2)).toArray.size:Nat),cz (ep:Nat)]:List aa).toArray }:=by unfold fG;rw[e0];simp
 rw[eo]at h;exact ah (iA (aT ⟨_,rfl,"set_iterator",_,⟨_,dA _ rfl,rfl⟩,fV.lookup,h⟩))
theorem Rh{i:Nat}{Q:Option aa->af->Prop}{e:Int×aa}(hI:s.heap.get? I=some (fG w t D L.length ep i))(ho:s.heap.get? D=some (eG L ep t))(g:Goes w L t)(hi:i < L.length)(he:(nJ w D ep L)[i]?=some e)
  (h:∀h',ef I s.heap h'->h'.get? I=some (fG w t D L.length ep (i + 1))->Q (some e.2) { s with heap:=h' }):aw (ay prog w) A (gd (.ref I)) Q E s:=by
 have hT:s.TypeIs (.ref I) "set_iterator":=⟨_,hI,rfl⟩
 unfold gd;refine ah (oo (oq (name:=mP "__next__") hT fV (ku fV hT qO ?_ (tR _))));unfold Builtin.«set_iterator.__next__»;simp only[slotArgs,vt,eB,bz,if_false,d4,bne_self_eq_false];refine ah (aT ?_);refine ah (qo hI rfl ?_);simp only[cz];refine ah (vw ho rfl (g.g.fits g.hl) ?_);have hz:((((L.map (·.2)).toArray.size:Nat):Int) != ((L.length:Nat):Int))=false:=by simp
 simp only[hz,bz,if_false,mo];refine ah (OD ho g.g g.hl g.pl g.ld (gm hi) ?_);rw[he];simp only[n_];have hd0:(fG w t D L.length ep i).data=.fields #[cz (iC w t i),cz i,.ref D,cz L.length,cz ep]:=rfl;refine ah (j8 hI hd0 (by simp) ?_);have hd1:=kU hd0 (·.setIfInBounds 0 (cz (iC w t (i + 1))));have hI1:=hV (hG (·.setIfInBounds 0 (cz (iC w t (i + 1))))) hI (nX hd1);refine ah (j8 hI1 hd1 (by simp) ?_);have hd2:=kU hd1 (·.setIfInBounds 1 (cz (i + 1:Nat)));have hI2:=hV (hG (·.setIfInBounds 1 (cz (i + 1:Nat)))) hI1 (nX hd2);refine aT ⟨_,rfl,aT (h _ ((ki ..).trans (ki ..)) ?_)⟩;refine hI2.trans ?_;unfold fG hG;simp[cz]
theorem Ri{Q:Option aa->af->Prop}(hh:A.handled=none)(hI:s.heap.get? I=some (fG w t D L.length ep L.length))(ho:s.heap.get? D=some (eG L ep t))(g:Goes w L t)
  (h:∀h',aE.ExtBut I s.heap h'->Q none { s with heap:=h' }):aw (ay prog w) A (gd (.ref I)) Q E s:=by
 have hT:s.TypeIs (.ref I) "set_iterator":=⟨_,hI,rfl⟩
 unfold gd;refine ah (oo (oq (name:=mP "__next__") hT fV (ku fV hT qO ?_ (tR _))));unfold Builtin.«set_iterator.__next__»;simp only[slotArgs,vt,eB,bz,if_false,d4,bne_self_eq_false];refine ah (aT ?_);refine ah (qo hI rfl ?_);simp only[cz];refine ah (vw ho rfl (g.g.fits g.hl) ?_);have hz:((((L.map (·.2)).toArray.size:Nat):Int) != ((L.length:Nat):Int))=false:=by simp
 simp only[hz,bz,if_false,mo];refine ah (OD ho g.g g.hl g.pl g.ld (bE _) ?_);have he:(nJ w D ep L)[L.length]?=none:=by rw[qq];rw[sy];exact bE _
 rw[he];simp only[Option.map_none];have hd0:(fG w t D L.length ep L.length).data=.fields #[cz (iC w t L.length),cz L.length,.ref D,cz L.length,cz ep]:=rfl;refine ah (j8 hI hd0 (by simp) ?_);refine ah ?_;simp only[newExc,newTuple];refine ah (iA ?_ (by size_fits));refine ah (m:=qr _ _) (u_ (a:=aa.none) (by first|rfl|(simp only[qr];rfl)) ?_);refine iA ?_ (by size_fits);simp only[raiseNew];refine ah (wpAny_handled ?_);rw[show A.in1.handled=none from hh];refine ah (aT (tz ?_));refine ah (qs (T:="StopIteration") (b:=true) ⟨_,dA _ rfl,rfl⟩ isSubtype_stop ?_);exact aT (h _ (((ki ..).extBut.push _).push _))
theorem Rj(hh:A.handled=none)(hne:D≠I)(g:Goes w L t) :
  Walks prog w A I [I,D] [I] L.length (fun i v=>∃e,(nJ w D ep L)[i]?=some e/\v=e.2) (fun i h=>h.get? I=some (fG w t D L.length ep i)/\h.get? D=some (eG L ep t)) where
 sub:=fun b hb=>by simp at hb;simp[hb]
 frame:=fun _ _ _ st hk=>⟨hk I (by simp) _ st.1,hk D (by simp) _ st.2⟩
 item:=fun i s Q E hi st hQ=>by
  have hlt:i < (nJ w D ep L).size:=by rw[sy];exact hi
  refine Rh st.1 st.2 g hi (mS hlt) fun h' hs hI'=>?_;exact hQ _ h' s.toks ⟨_,mS hlt,rfl⟩ ⟨hI',(hs.2 D hne).trans st.2⟩ fun b o hb e=>(hs.2 b (fun z=>hb (by simp[z]))).trans e
 done:=fun s Q E st hQ=>Ri hh st.1 st.2 g fun h' he=>hQ h' s.toks fun b o hb e=>he b o (fun z=>hb (by simp[z])) e
 self:=fun i s Q E st hQ=>by
  have hT:s.TypeIs (.ref I) "set_iterator":=⟨_,st.1,rfl⟩
  refine vn hT tU (ku tU hT zp ?_ (Br _));show aw _ _ (ret (.ref I)) _ _ s;exact aT ⟨_,rfl,"set_iterator",_,hT,fV.lookup,hQ⟩
end
section
variable{prog:aS}{w:az}{A:ba}{E:aa->af->Prop}{s:af}{D I:ae}{L:List gC}{ep:Nat}{t:b_}
noncomputable abbrev cA:Obj:={ cls:=.type "list",data:=.seq ([]:List aa).toArray }
theorem VD{Q:Bool->af->Prop}(ho:s.heap.get? D=some (eG L ep t))(h:Q false s):aw (ay prog w) A (qv (.ref D)) Q E s:=by
 have hT:s.TypeIs (.ref D) "set":=⟨_,ho,rfl⟩
 unfold qv;refine ah (u6 hT F.slot_set_len.lookup ?_);have e1:splitId "set.__len__"=some ("set","__len__"):=by kernel_rfl
 simp only[e1];refine ah (qs hT sub_set_self ?_);simp only[eB,bz,if_false];have pick:∀{c:Bool}{x y:Sem Bool},c=true->aw (ay prog w) A x Q E s->aw (ay prog w) A (if c=true then x else y) Q E s:=fun {c x y} hc hy=>by rw[hc];exact hy
 refine pick (by decide+kernel) ?_;refine ah (oa hT ?_);exact aT h
theorem Ih{Q:List aa->af->Prop}(hh:A.handled=none)(ho:s.heap.get? D=some (eG L ep t))(g:Goes w L t)(hn:L.length<=4900)
  (hQ:∀h' tk,(∀b o,s.heap.get? b=some o->h'.get? b=some o)->s.heap.objs.size<=h'.objs.size->Q ((nJ w D ep L).toList.map (·.2)) { s with heap:=h',toks:=tk }):aw (ay prog w) A (collect (.ref D)) Q E s:=by
 have wH:D < s.heap.objs.size:=bP ho;unfold collect;refine ah (qi (ko F.entry_proto_collect ?_));rw[lj F.plain_proto_collect _];show aw _ A.in1 (newList [] >>= fun l=>again (.builtin "list.__iadd__" ⟨[l,.ref D],[]⟩)) _ _ s;refine ah (iA ?_);refine aT ⟨mE qA _,ko F.entry_list_iadd ?_⟩;rw[lj qA _];have p1:∀b o,s.heap.get? b=some o->(s.heap.push cA).get? b=some o:=fun b o e=>cy _ e;have hD1:(s.heap.push cA).get? D=some (eG L ep t):=p1 _ _ ho;have hS1:(s.heap.push cA).get? s.heap.objs.size=some cA:=dA _ rfl;show aw _ A.in1 (qB (.ref s.heap.objs.size) (.ref D) (.ref s.heap.objs.size)) _ _ _;unfold qB;have hT:va { s with heap:=s.heap.push cA } (.ref D) "set":=⟨_,hD1,rfl⟩
 refine ah (oa hT ?_);have k1:qE (.ref s.heap.objs.size) (.ref D)=false:=by simp[qE];exact lT wH
 have k2:(aa.type "set" == aa.type "list")=false:=by decide
 have k3:(aa.type "set" == aa.type "tuple")=false:=by decide
 simp only[k1,k2,k3,u5,bz,if_false];refine ah (VB hD1 g ?_);have p2:∀b o,(s.heap.push cA).get? b=some o->((s.heap.push cA).push (fG w t D L.length ep 0)).get? b=some o:=fun b o e=>cy _ e;have hD2:=p2 _ _ hD1;have hS2:=p2 _ _ hS1;have hI2:((s.heap.push cA).push (fG w t D L.length ep 0)).get? (s.heap.push cA).objs.size=some (fG w t D L.length ep 0):=dA _ rfl;have Fi:(s.heap.push cA).objs.size=s.heap.objs.size + 1:=pk ..;refine ah (fI (VD hD2 ?_));have pick:∀{c:Bool}{x y:Sem ot}{R:ot->af->Prop}{F':aa->af->Prop}{s':af},c=true->aw (ay prog w) A.in1 x R F' s'->aw (ay prog w) A.in1 (if c=true then x else y) R F' s':=fun {c x y R F' s'} hc hy=>by rw[hc];exact hy
 refine pick (by decide+kernel) ?_;refine ah (kv ?_);refine ah ?_;show aw _ A.in1 (qS s.heap.objs.size (·.push .none) >>= fun _=>qS s.heap.objs.size (·.pop)) _ _ _;refine ah (ox hS2 rfl ?_);have hS3:=hV (eA (·.push aa.none)) hS2 rfl;refine ox hS3 rfl ?_;have Bt:=hV (eA (·.pop)) hS3 rfl;generalize hH:(((s.heap.push cA).push (fG w t D L.length ep 0)).update s.heap.objs.size (eA (·.push aa.none))).update s.heap.objs.size (eA (·.pop))=H at Bt;have oth:∀b o,b≠s.heap.objs.size->((s.heap.push cA).push (fG w t D L.length ep 0)).get? b=some o->H.get? b=some o:=fun b o hb e=>by rw[<- hH];exact(i8 _ _ (dE hb)).trans ((i8 _ _ (dE hb)).trans e)
 have W:=(Rj (prog:=prog) (w:=w) (A:=A.in1) (D:=D) (I:=(s.heap.push cA).objs.size) (ep:=ep) (by simpa using hh) (by rw[Fi];exact cv (j9 wH)) g).toS;have hSf:s.heap.objs.size∉[(s.heap.push cA).objs.size,D]:=by simp only[cm,f9,or_false,not_or];exact⟨by rw[Fi];exact cv (vx _),lT wH⟩
 refine aT ⟨mE F.plain_extend_loop _,codeAny_extend_loopS W (by rw[d8];lia) s.heap.objs.size hSf _ L.length 0 _ _ _ rfl (eJ _) ⟨oth _ _ (by rw[Fi];exact vi _) hI2,oth _ _ (cv wH) hD2⟩ Bt (ItemsOf.nil _) fun s' acc c hm hS' hacc=>?_⟩;show aw _ A (load s.heap.objs.size >>= _) _ _ s';refine ah (wpAny_load hS' ?_);have hacc':acc.toList=(nJ w D ep L).toList.map (·.2):=by
  apply vy;intro i;rw[di,jb,jb];cases e:acc[i]? with
  |some v =>
   obtain⟨x,hx,rfl⟩:=hacc.2 i v e;rw[hx];rfl
  |none =>
   have:acc.size<=i:=by simpa using e
   rw[hacc.1]at this;rw[qq (by rw[sy];exact this)];rfl
 obtain⟨h',g',d',tk',os'⟩:=s';have eg:g'=s.gens:=hm.gens;have ed:d'=s.drawn:=hm.drawn;have eo:os'=s.os:=hm.os;subst eg ed eo;show aw _ _ (pure acc.toList) _ _ _;rw[hacc'];refine aT (hQ h' tk' (fun b o e=>hm.heap b o ?_ (oth b o (cv (bP e)) (p2 _ _ (p1 _ _ e)))) (gm (bP hS')));simp only[cm,f9,or_false,not_or];exact⟨cv (bP e),by rw[Fi];exact cv (j9 (bP e))⟩
end
section
variable{prog:aS}{w:az}{A:ba}{E:aa->af->Prop}{s:af}
end
section
variable{prog:aS}{w:az}{U:ae->List Int->Prop}{A:ba}{E:aa->af->Prop}{s:af}
end
section
variable{prog:aS}{w:az}{U:ae->List Int->Prop}{A:ba}{E:aa->af->Prop}{s:af}
end
section
variable{prog:aS}{w:az}{U:ae->List Int->Prop}{A:ba}{E:aa->af->Prop}{s:af}
end
section
variable{prog:aS}{w:az}{U:ae->List Int->Prop}{A:ba}{E:aa->af->Prop}{s:af}
end
section
variable{prog:aS}{w:az}{U:ae->List Int->Prop}{A:ba}{E:aa->af->Prop}{s:af}
end
end Tb
namespace So
open PySem PySem.W PyProof.Rows
noncomputable def Sp(lt:Nat->Nat->Bool)(n:Nat){α:Type}:KasT α->(α->Prop)->Prop
 | .ret a,Q=>Q a
 | .ask i j k,Q=>i < n/\j < n/\Sp lt n (k (lt i j)) Q
section
variable{lt:Nat->Nat->Bool}{n:Nat}{α β:Type}
structure Ar (n:Nat)(p:Array Nat):Prop where
 sz:p.size=n
 lt:∀i,p.getD i 0 < n
 pm:p.toList.Perm (bS n)
noncomputable def Up(lt:Nat->Nat->Bool)(p:Array Nat)(m:Nat):Prop:=∀i j,i < j->j < m->lt (p.getD j 0) (p.getD i 0)=false
noncomputable def Dn(lt:Nat->Nat->Bool)(p:Array Nat)(m:Nat):Prop:=∀i j,i < j->j < m->lt (p.getD i 0) (p.getD j 0)=false
structure Ord (lt:Nat->Nat->Bool):Prop where
 tr:∀a b c,lt b a=false->lt c b=false->lt c a=false
 as:∀a b,lt a b=true->lt b a=false
theorem irr(O:Ord lt)(a:Nat):lt a a=false:=by
 cases h:lt a a with
 |false=>rfl
 |true=>have:=O.as a a h;rw[h]at this;cases this
end
end So
namespace So
open PySem PySem.W PyProof.Rows PySem.Calls
noncomputable def vW:List Int->List Int->Bool
 | [],[]=>false
 | [],_::_=>true
 |_::_,[]=>false
 |a::as,b::bs=>if a=b then vW as bs else decide (a < b)
theorem Lb:∀a b:List Int,vW a b=true->vW b a=false
 | [],[],h=>by cases h
 | [],_::_,h=>rfl
 |_::_,[],h=>by cases h
 |a::as,b::bs,h=>by
  unfold vW at h ⊢;by_cases c:a=b
  ·subst c;simp only[if_true]at h ⊢;exact Lb as bs h
  ·rw[if_neg c]at h;rw[if_neg (dE c)];have:=of_decide_eq_true h;exact decide_eq_false (by lia)
theorem Ld:∀a b c:List Int,vW b a=false->vW c b=false->vW c a=false
 | [],[],[],_,_=>rfl
 | [],[],_::_,_,_=>rfl
 | [],_::_,[],_,h=>by cases h
 | [],_::_,_::_,_,_=>rfl
 |_::_,[],_,h,_=>by cases h
 |a::as,b::bs,[],_,h=>by cases h
 |a::as,b::bs,c::cs,h1,h2=>by
  unfold vW at h1 h2 ⊢;by_cases e1:b=a
  ·subst e1;simp only[if_true]at h1;by_cases e2:c=b
   ·subst e2;simp only[if_true]at h2 ⊢;exact Ld as bs cs h1 h2
   ·rw[if_neg e2]at h2 ⊢;exact h2
  ·rw[if_neg e1]at h1;have g1:=of_decide_eq_false h1;by_cases e2:c=b
   ·subst e2;rw[if_neg e1];exact h1
   ·rw[if_neg e2]at h2;have g2:=of_decide_eq_false h2;rw[if_neg (by lia)];exact decide_eq_false (by lia)
theorem VF:∀a b:List Int,vW a b=false->vW b a=false->a=b
 | [],[],_,_=>rfl
 | [],_::_,h,_=>by cases h
 |_::_,[],_,h=>by cases h
 |a::as,b::bs,h1,h2=>by
  unfold vW at h1 h2;by_cases c:a=b
  ·subst c;simp only[if_true]at h1 h2;rw[VF as bs h1 h2]
  ·rw[if_neg c]at h1;rw[if_neg (dE c)]at h2;have:=of_decide_eq_false h1;have:=of_decide_eq_false h2;lia
theorem aem(aY:LL):Ord fun i j=>vW (aY.getD i []) (aY.getD j []):=⟨fun a b c h1 h2=>Ld _ _ _ h1 h2,fun a b h=>Lb _ _ h⟩
section
variable{prog:aS}{w:az}{A:ba}{E:aa->af->Prop}{s:af}
noncomputable def agO(prog:aS)(w:az)(A:ba)(κ:e_)(vs:List aa)(lt:Nat->Nat->Bool)(s:af):Prop :=
 ∀i j (C:Bool->af->Prop) (E:aa->af->Prop),i < vs.length->j < vs.length->C (lt i j) s->aw (ay prog w) A (keyLt' κ (vs.getD i aa.none) (vs.getD j aa.none)) C E s
noncomputable def Le(lt:Nat->Nat->Bool)(vs:List aa)(st:bq):Prop:=∃p:Array Nat,Ar vs.length p/\Up lt p vs.length/\(aI st).map (·.2)=kx (p.toList.map fun i=>vs.getD i aa.none)/\fg st=none
theorem VG{b:Bool}{Q:Bool->af->Prop}:∀{ks js:List Int}{xs ys:List aa}(i:Nat),ItemsAre (cq prog w) ks xs->ItemsAre (cq prog w) js ys->Q (vW ks js) s ->
  KatLex prog w A b (decide (xs.length < ys.length)) Q (xs.zip ys) i s:=by
 have gen:∀(d:Bool) {ks js:List Int}{xs ys:List aa}(i:Nat),ItemsAre (cq prog w) ks xs->ItemsAre (cq prog w) js ys->d=decide (xs.length < ys.length)->Q (vW ks js) s->KatLex prog w A b d Q (xs.zip ys) i s:=by
  intro d ks
  induction ks with
  |nil =>
   intro js xs ys i hx hy hd hq;cases hx;cases hy with
   |nil=>subst hd;exact kat_nil hq
   |cons h1 h2=>subst hd;exact kat_nil hq
  |cons k ks ih =>
   intro js xs ys i hx hy hd hq;cases hx with
   |cons h1 h2 =>
    cases hy with
    |nil=>subst hd;exact kat_nil hq
    | @cons j v js vs h3 h4 =>
     obtain⟨t,rfl⟩:=lL h1;obtain⟨u,rfl⟩:=lL h3;refine kat_cons (wpAny_eqBool_int ?_);by_cases e:k=j
     ·subst e;rw[show(k == k)=true from by simp];refine kat_yes (ih (i + 1) h2 h4 (by rw[hd];simp) ?_);unfold vW at hq;rw[if_pos rfl]at hq;exact hq
     ·rw[show(k == j)=false from by simp[e]];unfold vW at hq;rw[if_neg e]at hq;refine kat_no ?_;cases (b && i == 0) with
      |true=>exact oneLt_int hq
      |false=>exact kat_one _ _ (wpAny_lt_int hq)
 intro ks js xs ys i hx hy hq;exact gen _ i hx hy rfl hq
theorem aaD{a b:ae}{ks js:List Int}{f:Bool}{Q:Bool->af->Prop}(ha:da (cq prog w) s.heap ks a)(hb:da (cq prog w) s.heap js b)(hq:Q (vW ks js) s) :
  aw (ay prog w) A (keyLt' (tuples' f) (.ref a) (.ref b)) Q E s:=by
 obtain⟨o,xs,n,h1,h2,h3,h4⟩:=ha;obtain⟨o',ys,n',h1',h2',h3',h4'⟩:=hb;refine kat_lt h1 h3 h1' h3' ?_;have:=VG (prog:=prog) (w:=w) (A:=A) (b:=f) 0 h4 h4' hq;simpa using this
noncomputable def KeysAre(prog:aS)(w:az)(h:aE)(vs:List aa)(aY:LL):Prop :=
 aY.length=vs.length/\∀(i:Nat) v,vs[i]?=some v->∃b,v=.ref b/\da (cq prog w) h (aY.getD i []) b
theorem KeysAre.moved{h h':aE}{vs:List aa}{aY:LL}(k:KeysAre prog w h vs aY) (hm:∀b o,h.get? b=some o->o.cls=.type "tuple"->h'.get? b=some o):KeysAre prog w h' vs aY :=
 ⟨k.1,fun i v hv=>let ⟨b,e,o,its,m,q1,q2,q3,q4⟩:=k.2 i v hv;⟨b,e,o,its,m,hm _ _ q1 q2,q2,q3,q4⟩⟩
theorem KeysAre.asks{f:Bool}{vs:List aa}{aY:LL}(k:KeysAre prog w s.heap vs aY):agO prog w A (tuples' f) vs (fun i j=>vW (aY.getD i []) (aY.getD j [])) s:=by intro i j C E hi hj hC;obtain⟨b,e,hb⟩:=k.2 i vs[i] (d9 hi);obtain⟨b',e',hb'⟩:=k.2 j vs[j] (d9 hj);rw[show vs.getD i aa.none=.ref b by simp[hi,e],show vs.getD j aa.none=.ref b' by simp[hj,e']];exact aaD hb hb' hC
theorem KeysAre.tups{h:aE}:∀{vs:List aa}{aY:LL},KeysAre prog w h vs aY->(∀ks∈aY,ks≠[])->∃fs:List aa,KatTups h vs fs/\fs.length=vs.length/\∀v∈fs,∃i t,v=.int i t
 | [],aY,k,hn=>⟨[],.nil,rfl,fun v hv=>by cases hv⟩
 |v::vs,[],k,hn=>by cases k.1
 |v::vs,ks::aY,k,hn=>by
  obtain⟨fs,t,l,e⟩:=KeysAre.tups (vs:=vs) (aY:=aY) ⟨by have:=k.1;simpa using this,fun i u hu=>by have:=k.2 (i + 1) u (by simpa using hu);simpa using this⟩ fun x hx=>hn x (.tail _ hx);obtain⟨b,rfl,o,its,m,q1,q2,q3,q4⟩:=k.2 0 v (by simp);have hne:=hn ks (.head _);simp at q4;generalize hits:its.toList=L at q4;cases q4 with
  |nil=>exact absurd rfl hne
  | @cons i v' ks' vs' h1 h2 =>
   obtain⟨tk,rfl⟩:=lL h1;have h0:its[0]?=some (aa.int i tk):=by rw[<- jb,hits];rfl
   refine⟨.int i tk::fs,.cons q1 q2 q3 h0 t,by simp[l],fun u hu=>?_⟩;rcases cm.mp hu with rfl|hu
   ·exact⟨_,_,rfl⟩
   ·exact e u hu
noncomputable def RX(a b:List Int):Prop:=vW b a=false
noncomputable def Lf(x:List Int):LL->LL
 | []=>[x]
 |y::ys=>if vW y x=true then y::Lf x ys else x::y::ys
noncomputable def bO(l:LL):LL:=l.foldr Lf []
theorem wI(x:List Int):∀l,(Lf x l).Perm (x::l)
 | []=>.refl _
 |y::ys=>by
  unfold Lf;split
  ·exact((wI x ys).cons y).trans (h_.swap x y ys)
  ·exact .refl _
theorem fH:∀l,(bO l).Perm l
 | []=>.refl _
 |x::l=>(wI x (bO l)).trans ((fH l).cons x)
theorem OJ(x:List Int):∀l,l.Pairwise RX->(Lf x l).Pairwise RX
 | [],_=>by simp[Lf]
 |y::ys,h=>by
  obtain⟨h1,h2⟩:=f7.mp h;unfold Lf;split
  ·rename_i c;refine f7.mpr ⟨fun z hz=>?_,OJ x ys h2⟩;rcases cm.mp ((wI x ys).mem_iff.mp hz) with rfl|hz
   ·exact Lb _ _ c
   ·exact h1 z hz
  ·rename_i c;have c':vW y x=false:=by simpa using c
   refine f7.mpr ⟨fun z hz=>?_,h⟩;rcases cm.mp hz with rfl|hz
   ·exact c'
   ·exact Ld _ _ _ c' (h1 z hz)
theorem vh:∀l,(bO l).Pairwise RX
 | []=>.nil
 |x::l=>OJ x _ (vh l)
theorem wJ:∀{l l':LL},l.Perm l'->l.Pairwise RX->l'.Pairwise RX->l=l'
 | [],l',p,_,_=>(List.nil_perm.mp p).symm
 |x::l,[],p,_,_=>by cases List.perm_nil.mp p
 |x::l,y::l',p,h,h'=>by
  obtain⟨h1,h2⟩:=f7.mp h;obtain⟨h1',h2'⟩:=f7.mp h';have e:x=y:=by
   have m1:=cm.mp (p.mem_iff.mp (eR (a:=x) (l:=l)));have m2:=cm.mp (p.mem_iff.mpr (eR (a:=y) (l:=l')));rcases m1 with m1|m1
   ·exact m1
   ·rcases m2 with m2|m2
    ·exact m2.symm
    ·exact VF _ _ (h1' x m1) (h1 y m2)
  subst e;rw[wJ (p.cons_inv) h2 h2']
theorem zq{l l':LL}(p:l.Perm l')(h:l.Pairwise RX):l=bO l':=wJ (p.trans (fH l').symm) h (vh l')
noncomputable def Ii(aY:LL)(p:Array Nat):Prop:=p.toList.Perm (bS aY.length)/\(p.toList.map fun i=>aY.getD i [])=bO aY
theorem VH{aY:LL}{p:Array Nat}(a:Ar aY.length p)(u:Up (fun i j=>vW (aY.getD i []) (aY.getD j [])) p aY.length):Ii aY p:=by
 refine⟨a.pm,zq ?_ ?_⟩
 ·have:=a.pm.map fun i=>aY.getD i [];refine this.trans (oy ?_);apply ls
  ·simp
  ·intro i h1 h2;simp at h1;simp[h1]
 ·rw[k_];intro i j hi hj hij;simp only[cn,jS]at hi hj;have:=u i j hij (by rw[<- a.sz];exact hj);simp only[List.getElem_map,Array.getElem_toList];unfold RX;rw[ke,ke,mS hi,mS hj]at this;exact this
theorem Ij{aY:LL}(h:aY.length < 2):Ii aY (kx (bS aY.length)):=by
 refine⟨.refl _,zq ?_ ?_⟩
 ·refine oy ?_;apply ls
  ·simp
  ·intro i h1 h2;simp at h1;simp[h1]
 ·rw[k_];intro i j hi hj hij;simp at hi hj;lia
end
end So
namespace Sb
open PySem PySem.W PyProof.Rows
section
variable{prog:aS}{w:az}{A:ba}{E:aa->af->Prop}{s:af}{a₀ x0:Array ax}{κ:e_}{rk:ax->Int}{lo:Nat}{p0:Array (Nat×Nat×Nat)}
noncomputable def Ax(prog:aS)(w:az)(A:ba)(s:af)(κ:e_)(rk:ax->Int)(a₀:Array ax):Prop :=
 ∀x y (C:Bool->af->Prop) (E:aa->af->Prop),x∈a₀.toList->y∈a₀.toList->C (decide (rk x < rk y)) s->aw (ay prog w) A (keyLt' κ x.1 y.1) C E s
noncomputable def R(rk:ax->Int)(xs:Array ax)(i:Nat):Int:=match xs[i]? with|some p=>rk p|none=>0
theorem kE{xs ys:Array ax}{i j:Nat}(h:xs[i]?=ys[j]?):R rk xs i=R rk ys j:=by unfold R;rw[h]
theorem jf{xs:Array ax}{i:Nat}{x:ax}(h:xs[i]?=some x):R rk xs i=rk x:=by unfold R;rw[h]
noncomputable def Up(rk:ax->Int)(xs:Array ax)(lo n:Nat):Prop:=∀i j,i<=j->j < n->R rk xs (lo + i)<=R rk xs (lo + j)
noncomputable def Dn(rk:ax->Int)(xs:Array ax)(lo n:Nat):Prop:=∀i j,i<=j->j < n->R rk xs (lo + j)<=R rk xs (lo + i)
structure SB (κ:e_)(a₀ x0:Array ax)(p0:Array (Nat×Nat×Nat))(lo:Nat)(st:bq):Prop where
 perm:(aI st).Perm a₀
 kind:kindOf st=κ
 failed:fg st=none
 pend:cb st=p0
 keep:∀k,k < lo->(aI st)[k]?=x0[k]?
theorem SB.size{st:bq}(h:SB κ a₀ x0 p0 lo st):(aI st).size=a₀.size:=h.perm.size_eq
theorem SB.setArr{st:bq}(h:SB κ a₀ x0 p0 lo st){xs:Array ax}(hp:xs.Perm (aI st))(hk:∀k,k < lo->xs[k]?=(aI st)[k]?):SB κ a₀ x0 p0 lo (setArr st xs) :=
 ⟨hp.trans h.perm,h.kind,h.failed,h.pend,fun k hl=>(hk k hl).trans (h.keep k hl)⟩
theorem VJ{xs:Array ax}(hp:xs.Perm a₀){i:Nat}{x:ax}(h:xs[i]?=some x):x∈a₀.toList:=by obtain⟨hi,rfl⟩:=fS.mp h;exact(qV.mp hp).mem_iff.mp (by simp)
theorem bW{st:bq}{xs:Array ax}{i:Nat}{x:ax}{Q:ax->bq->Prop}(h:xs[i]?=some x)(hq:Q x st):wpS (ay prog w) A E s (de xs i) Q st:=by rw[elem'_eq,h];exact br hq
theorem zu{st:bq}{x y:ax}{Q:Option Bool->bq->Prop}(ha:Ax prog w A s κ rk a₀)(hk:kindOf st=κ)(hx:x∈a₀.toList)(hy:y∈a₀.toList)(h:Q (some (decide (rk x < rk y))) st) :
  wpS (ay prog w) A E s (lt' x y) Q st:=by
 rw[lt'_eq];refine a_ (gE ?_);rw[hk];refine a_ (lx (oo (ha x y _ _ hx hy ⟨rfl,?_⟩)));exact br h
theorem vm{st:bq}{i j:Nat}{Q:Option Bool->bq->Prop}(ha:Ax prog w A s κ rk a₀)(hB:SB κ a₀ x0 p0 lo st)(hi:i < a₀.size)(hj:j < a₀.size)
  (h:Q (some (decide (R rk (aI st) i < R rk (aI st) j))) st):wpS (ay prog w) A E s (ltAt' i j) Q st:=by
 have e1:(aI st)[i]?=some ((aI st)[i]'(by rw[hB.size];exact hi)):=getElem?_pos _ i _;have e2:(aI st)[j]?=some ((aI st)[j]'(by rw[hB.size];exact hj)):=getElem?_pos _ j _;rw[jf e1,jf e2]at h;rw[ltAt'_eq];refine a_ (gE ?_);exact a_ (bW e1 (a_ (bW e2 (zu ha hB.kind (VJ hB.perm e1) (VJ hB.perm e2) h))))
theorem yg{st:bq}{i j:Nat}{Q:Unit->bq->Prop}(h:Q () (setArr st (ic (aI st) i j ((j - i) / 2)))) :
  wpS (ay prog w) A E s (oz i j) Q st:=by
 rw[reverseSlice'_eq];exact iN h
theorem zx{xs:Array ax}{i j:Nat}(hj:j<=xs.size)(k:Nat) :
  R rk (ic xs i j ((j - i) / 2)) k=if i<=k/\k < j then R rk xs (i + j - 1 - k) else R rk xs k:=by
 have e:=getElem?_mirror_all (i:=i) hj k;by_cases h1:i<=k/\k < j
 ·rw[if_pos h1]at e ⊢;exact kE e
 ·rw[if_neg h1]at e ⊢;exact kE e
theorem gF{xs:Array ax}{i j:Nat}(hj:j<=xs.size)(heq:∀k,i<=k->k < j->R rk xs k=R rk xs (j - 1))(k:Nat) :
  R rk (ic xs i j ((j - i) / 2)) k=R rk xs k:=by
 rw[zx hj];split
 ·rw[heq _ (by lia) (by lia),heq k (by lia) (by lia)]
 ·rfl
theorem SB.rev{st:bq}(h:SB κ a₀ x0 p0 lo st){i j:Nat}(hi:lo<=i)(hj:j<=a₀.size):SB κ a₀ x0 p0 lo (PyProof.Rows.setArr st (ic (aI st) i j ((j - i) / 2))) :=
 h.setArr (mirror_perm _ _ _ _) fun k hk=>by rw[getElem?_mirror_all (by rw[h.size];exact hj),if_neg (by lia)]
noncomputable def VL(lo a nrem:Nat):StateT bq Sem AscSt :=
 forIn [a:nrem] ((none,a):AscSt) fun _ __s=>do
  let __x <- ltAt' (lo + __s.snd) (lo + __s.snd - 1)
  match __x with
  |some smaller=>if smaller=true then pure (ForInStep.done (none,__s.snd)) else pure (ForInStep.yield (none,__s.snd + 1))
  |_=>pure (ForInStep.done (some none,__s.snd))
noncomputable def Ik(lo n nrem:Nat):StateT bq Sem (Option Nat):=do
 oz lo (lo + n)
 let __s <- VL lo n nrem
 match __s.fst with
 |some r=>pure r
 |none=>pure (some __s.snd)
noncomputable def Pa(lo n nrem:Nat):StateT bq Sem DescSt :=
 forIn [n:nrem] ((none,n,0):DescSt) fun _ __s=>do
  let __x <- ltAt' (lo + __s.snd.fst) (lo + __s.snd.fst - 1)
  match __x with
  |some smaller =>
   if smaller=true then
    if __s.snd.snd > 0 then do
     oz (lo + __s.snd.fst - (__s.snd.snd + 1)) (lo + __s.snd.fst)
     pure (ForInStep.yield (none,__s.snd.fst + 1,0))
    else pure (ForInStep.yield (none,__s.snd.fst + 1,0))
   else do
    let __x <- ltAt' (lo + __s.snd.fst - 1) (lo + __s.snd.fst)
    match __x with
    |some larger =>
     if larger=true then pure (ForInStep.done (none,__s.snd.fst,__s.snd.snd))
     else pure (ForInStep.yield (none,__s.snd.fst + 1,__s.snd.snd + 1))
    |_=>pure (ForInStep.done (some none,__s.snd.fst,__s.snd.snd))
  |_=>pure (ForInStep.done (some none,__s.snd.fst,__s.snd.snd))
noncomputable def Il(lo n nrem:Nat):StateT bq Sem (Option Nat):=do
 liftM (rule "list.sort.descending-run")
 let __s <- Pa lo (n + 1) nrem
 match __s.fst with
 |some r=>pure r
 |none =>
  if __s.snd.snd > 0 then do
   oz (lo + __s.snd.fst - (__s.snd.snd + 1)) (lo + __s.snd.fst)
   Ik lo __s.snd.fst nrem
  else Ik lo __s.snd.fst nrem
theorem VN(lo nrem:Nat):countRun' lo nrem=(do
  let __s <- VL lo 1 nrem
  match __s.fst with
  |some r=>pure r
  |none =>
   if (__s.snd == nrem)=true then pure (some __s.snd)
   else if __s.snd > 1 then do
    let __x <- ltAt' lo (lo + __s.snd - 1)
    match __x with
    |some rose=>if rose=true then pure (some __s.snd) else do
      oz lo (lo + __s.snd)
      Il lo __s.snd nrem
    |_=>pure none
   else Il lo __s.snd nrem):=by
 rw[countRun'_eq];unfold Il Ik Pa VL;dsimp only;congr 1;funext __s;obtain⟨r,n⟩:=__s;cases r with
 |some r=>rfl
 |none =>
  dsimp only;split
  ·rfl
  ·split
   ·congr 1;funext x;cases x with
    |none=>rfl
    |some rose =>
     dsimp only;split
     ·rfl
     ·congr 1;funext _r;congr 1;funext _u;congr 1;congr 1;funext s2;obtain⟨r2,n2,q2⟩:=s2;cases r2 with
      |some r2=>rfl
      |none =>
       dsimp only;split
       ·congr 1;funext _v;congr 1;funext _w;congr 1;funext s3;obtain⟨r3,n3⟩:=s3;cases r3 <;> rfl
       ·congr 1;funext _w;congr 1;funext s3;obtain⟨r3,n3⟩:=s3;cases r3 <;> rfl
   ·congr 1;funext _u;congr 1;congr 1;funext s2;obtain⟨r2,n2,q2⟩:=s2;cases r2 with
    |some r2=>rfl
    |none =>
     dsimp only;split
     ·congr 1;funext _v;congr 1;funext _w;congr 1;funext s3;obtain⟨r3,n3⟩:=s3;cases r3 <;> rfl
     ·congr 1;funext _w;congr 1;funext s3;obtain⟨r3,n3⟩:=s3;cases r3 <;> rfl
end
section
variable{prog:aS}{w:az}{A:ba}{E:aa->af->Prop}{s:af}{a₀ x0:Array ax}{κ:e_}{rk:ax->Int}{lo:Nat}{p0:Array (Nat×Nat×Nat)}
theorem Pb{st:bq}{a nrem:Nat}{Q:AscSt->bq->Prop}(h0:Ax prog w A s κ rk a₀)(hn:lo + nrem<=a₀.size)(ha:1<=a)(han:a<=nrem)(hB:SB κ a₀ x0 p0 lo st)
  (hs:Up rk (aI st) lo a)
  (h:∀n,a<=n->n<=nrem->Up rk (aI st) lo n->(n=nrem∨R rk (aI st) (lo + n) < R rk (aI st) (lo + (n - 1)))->Q (none,n) st) :
  wpS (ay prog w) A E s (VL lo a nrem) Q st:=by
 unfold VL;refine eQ (I:=fun x c st'=>st'=st/\c=(none,x)/\Up rk (aI st) lo x) ?step ?fQ ⟨rfl,rfl,hs⟩
 case fQ =>
  rintro c st' ⟨rfl,rfl,hs'⟩;rw[show max a nrem=nrem by lia]at hs' ⊢;exact h nrem han (bE _) hs' (.inl rfl)
 case step =>
  rintro x c st' hax hxn ⟨rfl,rfl,hs'⟩;dsimp only;rw[show lo + x - 1=lo + (x - 1) by lia];refine a_ (vm h0 hB (by lia) (by lia) ?_);by_cases hless:R rk (aI st') (lo + x) < R rk (aI st') (lo + (x - 1))
  ·simp only[hless,decide_true,if_true];exact br (h x hax (by lia) hs' (.inr hless))
  ·simp only[hless,decide_false,bz,if_false];refine br ⟨rfl,rfl,fun i j hij hj=>?_⟩;by_cases hjx:j < x
   ·exact hs' i j hij hjx
   ·have hj':j=x:=by lia
    subst hj';by_cases hi':i=j
    ·subst hi';exact gL _
    ·exact eL (hs' i (j - 1) (by lia) (by lia)) (oB.mp hless)
theorem CP{st:bq}{n nrem:Nat}{Q:Option Nat->bq->Prop}(h0:Ax prog w A s κ rk a₀)(hn:lo + nrem<=a₀.size)(h1:1<=n)(hnn:n<=nrem)(hB:SB κ a₀ x0 p0 lo st)
  (hs:Dn rk (aI st) lo n) (h:∀m st',SB κ a₀ x0 p0 lo st'->1<=m->m<=nrem->Up rk (aI st') lo m->Q (some m) st') :
  wpS (ay prog w) A E s (Ik lo n nrem) Q st:=by
 unfold Ik;have hsz:lo + n<=(aI st).size:=by rw[hB.size];lia
 refine a_ (yg ?_);have hB':SB κ a₀ x0 p0 lo (setArr st (ic (aI st) lo (lo + n) ((lo + n - lo) / 2))):=hB.rev (bE _) (by lia);refine a_ (Pb h0 hn h1 hnn hB' ?_ fun m hm1 hm2 hsm _=>br (h m _ hB' (by lia) hm2 hsm));intro i j hij hj;show R rk (ic (aI st) lo (lo + n) ((lo + n - lo) / 2)) (lo + i)<=R rk (ic (aI st) lo (lo + n) ((lo + n - lo) / 2)) (lo + j);rw[zx hsz,zx hsz,if_pos (by lia),if_pos (by lia)];have:=hs (n - 1 - j) (n - 1 - i) (by lia) (by lia);rw[show lo + (lo + n) - 1 - (lo + i)=lo + (n - 1 - i) by lia,show lo + (lo + n) - 1 - (lo + j)=lo + (n - 1 - j) by lia];exact this
theorem VP{st:bq}{n nrem:Nat}{Q:DescSt->bq->Prop}(h0:Ax prog w A s κ rk a₀)(hn:lo + nrem<=a₀.size)(h1:1<=n)(hnn:n<=nrem)(hB:SB κ a₀ x0 p0 lo st)
  (hs:Dn rk (aI st) lo n)
  (h:∀m neq st',SB κ a₀ x0 p0 lo st'->n<=m->m<=nrem->Dn rk (aI st') lo m->neq + 1<=m->(∀i,lo + m - (neq + 1)<=i->i < lo + m->R rk (aI st') i=R rk (aI st') (lo + m - 1))->Q (none,m,neq) st') :
  wpS (ay prog w) A E s (Pa lo n nrem) Q st:=by
 unfold Pa;refine eQ (I:=fun x c st'=>∃neq,c=(none,x,neq)/\SB κ a₀ x0 p0 lo st'/\Dn rk (aI st') lo x/\neq + 1<=x /\
   (∀i,lo + x - (neq + 1)<=i->i < lo + x->R rk (aI st') i=R rk (aI st') (lo + x - 1))) ?step ?fQ ⟨0,rfl,hB,hs,by lia,fun i h1 h2=>by congr 1;lia⟩
 case fQ =>
  rintro c st' ⟨neq,rfl,hB',hs',hq,he⟩;rw[show max n nrem=nrem by lia]at hs' hq he ⊢;exact h nrem neq st' hB' hnn (bE _) hs' hq he
 case step =>
  rintro x c st' hax hxn ⟨neq,rfl,hB',hs',hq,he⟩;dsimp only;have hsz:lo + x<=(aI st').size:=by rw[hB'.size];lia
  have e1:lo + x - 1=lo + (x - 1):=by lia
  refine a_ (vm h0 hB' (by lia) (by lia) ?_);by_cases hless:R rk (aI st') (lo + x) < R rk (aI st') (lo + x - 1)
  ·simp only[hless,decide_true,if_true];rw[e1]at hless;have step1:∀xs:Array ax,(∀k,R rk xs k=R rk (aI st') k)->Dn rk xs lo (x + 1):=by
    intro xs hk i j hij hj;rw[hk,hk];by_cases hjx:j < x
    ·exact hs' i j hij hjx
    ·have hj':j=x:=by lia
     subst hj';by_cases hi':i=j
     ·subst hi';exact gL _
     ·exact eL (gi hless) (hs' i (j - 1) (by lia) (by lia))
   by_cases hneq:neq > 0
   ·rw[if_pos hneq];refine a_ (yg (br ⟨0,rfl,hB'.rev (by lia) (by lia),step1 _ (gF hsz he),by lia,fun i h1 h2=>by congr 1;lia⟩))
   ·rw[if_neg hneq];exact br ⟨0,rfl,hB',step1 _ (fun _=>rfl),by lia,fun i h1 h2=>by congr 1;lia⟩
  ·simp only[hless,decide_false,bz,if_false];refine a_ (vm h0 hB' (by lia) (by lia) ?_);by_cases hlarger:R rk (aI st') (lo + x - 1) < R rk (aI st') (lo + x)
   ·simp only[hlarger,decide_true,if_true];exact br (h x neq st' hB' hax (by lia) hs' hq he)
   ·simp only[hlarger,decide_false,bz,if_false];have heqx:R rk (aI st') (lo + x)=R rk (aI st') (lo + x - 1):=by lia
    refine br ⟨neq + 1,rfl,hB',fun i j hij hj=>?_,by lia,fun i h1 h2=>?_⟩
    ·by_cases hjx:j < x
     ·exact hs' i j hij hjx
     ·have hj':j=x:=by lia
      subst hj';by_cases hi':i=j
      ·subst hi';exact gL _
      ·rw[heqx,e1];exact hs' i (j - 1) (by lia) (by lia)
    ·rw[show lo + (x + 1) - 1=lo + x by lia];by_cases hix:i=lo + x
     ·subst hix;rfl
     ·rw[heqx];exact he i (by lia) (by lia)
theorem CQ{st:bq}{n nrem:Nat}{Q:Option Nat->bq->Prop}(h0:Ax prog w A s κ rk a₀)(hn:lo + nrem<=a₀.size)(hnn:n + 1<=nrem)(hB:SB κ a₀ x0 p0 lo st)
  (hs:Dn rk (aI st) lo (n + 1)) (h:∀m st',SB κ a₀ x0 p0 lo st'->1<=m->m<=nrem->Up rk (aI st') lo m->Q (some m) st') :
  wpS (ay prog w) A E s (Il lo n nrem) Q st:=by
 unfold Il;refine a_ (lx (kv ⟨rfl,?_⟩));refine a_ (VP h0 hn (by lia) hnn hB hs fun m neq st' hB' hm1 hm2 hs' hq he=>?_);dsimp only;have hsz:lo + m<=(aI st').size:=by rw[hB'.size];lia
 by_cases hneq:neq > 0
 ·rw[if_pos hneq];refine a_ (yg (CP h0 hn (by lia) hm2 (hB'.rev (by lia) (by lia)) ?_ h));intro i j hij hj;show R rk (ic (aI st') _ _ _) _<=R rk (ic (aI st') _ _ _) _;rw[gF hsz he,gF hsz he];exact hs' i j hij hj
 ·rw[if_neg hneq];exact CP h0 hn (by lia) hm2 hB' hs' h
theorem Rk{st:bq}{nrem:Nat}{Q:Option Nat->bq->Prop}(h0:Ax prog w A s κ rk a₀)(hn:lo + nrem<=a₀.size)(h1:1<=nrem)(hB:SB κ a₀ x0 p0 lo st)
  (h:∀m st',SB κ a₀ x0 p0 lo st'->1<=m->m<=nrem->Up rk (aI st') lo m->Q (some m) st') :
  wpS (ay prog w) A E s (countRun' lo nrem) Q st:=by
 rw[VN];refine a_ (Pb h0 hn (bE 1) h1 hB (fun i j hij hj=>by have e:i=j:=by { lia };subst e;exact gL _) fun n hn1 hn2 hsn hor=>?_);dsimp only;by_cases hnn:n=nrem
 ·rw[if_pos (by simpa using hnn)];exact br (h n st hB hn1 hn2 hsn)
 ·rw[if_neg (by simpa using hnn)];have hlt:R rk (aI st) (lo + n) < R rk (aI st) (lo + (n - 1)):=hor.resolve_left hnn;by_cases hgt:n > 1
  ·rw[if_pos hgt,show lo + n - 1=lo + (n - 1) by lia];refine a_ (vm h0 hB (by lia) (by lia) ?_);by_cases hrose:R rk (aI st) lo < R rk (aI st) (lo + (n - 1))
   ·simp only[hrose,decide_true,if_true];exact br (h n st hB hn1 hn2 hsn)
   ·simp only[hrose,decide_false,bz,if_false];have hsz:lo + n<=(aI st).size:=by rw[hB.size];lia
    have hall':∀k,k < n->R rk (aI st) (lo + k)=R rk (aI st) (lo + (n - 1)):=by intro k hk;have a1:=hsn 0 k (by lia) hk;have a2:=hsn k (n - 1) (by lia) (by lia);rw[k9]at a1;lia
    have hall:∀k,lo<=k->k < lo + n->R rk (aI st) k=R rk (aI st) (lo + n - 1):=fun k k1 k2=>by have:=hall' (k - lo) (by lia);rw[show lo + (k - lo)=k by lia]at this;rw[this];congr 1;lia
    refine a_ (yg (CQ h0 hn (by lia) (hB.rev (bE _) (by lia)) ?_ h));intro i j hij hj;show R rk (ic (aI st) _ _ _) _<=R rk (ic (aI st) _ _ _) _;rw[gF hsz hall,gF hsz hall];by_cases hjn:j < n
    ·rw[hall' i (by lia),hall' j hjn];exact gL _
    ·obtain rfl:j=n:=by lia
     by_cases hi':i=j
     ·subst hi';exact gL _
     ·rw[hall' i (by lia)];exact gi hlt
  ·rw[if_neg hgt];obtain rfl:n=1:=by lia
   refine CQ h0 hn (by lia) hB ?_ h;intro i j hij hj;by_cases hi':i=j
   ·subst hi';exact gL _
   ·obtain rfl:i=0:=by lia
    obtain rfl:j=1:=by lia
    exact gi hlt
theorem Im{xs:Array ax}{src d:Nat}(hs:src < xs.size)(hd:d<=src)(k:Nat) :
  R rk (bubble xs src d) k=if k=src - d then R rk xs src else if src - d < k/\k<=src then R rk xs (k - 1) else R rk xs k:=by
 have e:=getElem?_bubble hs d hd k;by_cases h1:k=src - d
 ·rw[if_pos h1]at e ⊢;exact kE e
 ·rw[if_neg h1]at e ⊢;by_cases h2:src - d < k/\k<=src
  ·rw[if_pos h2]at e ⊢;exact kE e
  ·rw[if_neg h2]at e ⊢;exact kE e
theorem aaE{st:bq}{n ok:Nat}{Q:Bool->bq->Prop}(h0:Ax prog w A s κ rk a₀)(hn:lo + n<=a₀.size)(hok:ok<=n)(hB:SB κ a₀ x0 p0 lo st)(hs:Up rk (aI st) lo ok)
  (h:∀st',SB κ a₀ x0 p0 lo st'->Up rk (aI st') lo n->Q true st'):wpS (ay prog w) A E s (binarySort' lo n ok) Q st:=by
 rw[binarySort'_eq];refine a_ (eC (eQ (I:=fun k c st'=>c=(none,())/\SB κ a₀ x0 p0 lo st'/\Up rk (aI st') lo (min k n))
  (Q:=fun c st'=>c=(none,())/\SB κ a₀ x0 p0 lo st'/\Up rk (aI st') lo n) ?step ?fQ ?init) ?post)
 case post =>
  rintro c st' ⟨rfl,hB',hs'⟩;exact br (h st' hB' hs')
 case init =>
  refine⟨rfl,hB,fun i j hij hj=>?_⟩;by_cases h1:ok=0
  ·obtain rfl:i=j:=by lia
   exact gL _
  ·exact hs i j hij (by lia)
 case fQ =>
  rintro c st' ⟨hc,hB',hs'⟩;refine⟨hc,hB',?_⟩;rwa [show min (max (max ok 1) n) n=n by lia]at hs'
 case step =>
  rintro k c st' hak hkn ⟨rfl,hB',hs'⟩;rw[show min k n=k by lia]at hs';have hk:lo + k < a₀.size:=by lia
  refine a_ (eC (eQ (I:=fun x c st''=>st''=st'/\∃l r,c=(none,l,r)/\l<=r/\r<=k/\r - l<=k - x /\
    (∀i,i < l->R rk (aI st') (lo + i)<=R rk (aI st') (lo + k))/\(∀i,r<=i->i < k->R rk (aI st') (lo + k) < R rk (aI st') (lo + i)))
   (Q:=fun c st''=>st''=st'/\∃l r,c=(none,l,r)/\l<=k /\
    (∀i,i < l->R rk (aI st') (lo + i)<=R rk (aI st') (lo + k))/\(∀i,l<=i->i < k->R rk (aI st') (lo + k) < R rk (aI st') (lo + i))) ?istep ?ifin ?iinit) ?ipost)
  case iinit=>exact⟨rfl,0,k,rfl,by lia,by lia,by lia,fun i hi=>by lia,fun i h1 h2=>by lia⟩
  case ifin =>
   rintro c st'' ⟨rfl,l,r,rfl,hlr,hrk,hm,hlo,hhi⟩;obtain rfl:l=r:=by lia
   exact⟨rfl,l,l,rfl,hrk,hlo,hhi⟩
  case istep =>
   rintro x c st'' _ hxk ⟨rfl,l,r,rfl,hlr,hrk,hm,hlo,hhi⟩;dsimp only;by_cases hge:l ≥ r
   ·rw[if_pos hge];obtain rfl:l=r:=by lia
    exact br ⟨rfl,l,l,rfl,hrk,hlo,hhi⟩
   ·rw[if_neg hge];refine a_ (vm h0 hB' hk (by lia) ?_);by_cases hless:R rk (aI st'') (lo + k) < R rk (aI st'') (lo + (l + r) / 2)
    ·simp only[hless,decide_true,if_true];refine br ⟨rfl,l,(l + r) / 2,rfl,by lia,by lia,by lia,hlo,fun i h1 h2=>?_⟩;exact Int.lt_of_lt_of_le hless (hs' _ _ h1 h2)
    ·simp only[hless,decide_false,bz,if_false];refine br ⟨rfl,(l + r) / 2 + 1,r,rfl,by lia,by lia,by lia,fun i h1=>?_,hhi⟩;exact eL (hs' i ((l + r) / 2) (by lia) (by lia)) (oB.mp hless)
  case ipost =>
   rintro c st'' ⟨rfl,l,r,rfl,hlk,hlo,hhi⟩;show wpS _ _ _ _ (do moveDown' (lo + k) (lo + l);pure (ForInStep.yield (none,()))) _ _;rw[moveDown'_eq];have hks:lo + k < (aI st'').size:=by rw[hB'.size];exact hk
   refine a_ (iN (br ⟨rfl,hB'.setArr (bubble_perm _ _ _) (fun q hq=>?_),?_⟩))
   ·rw[getElem?_bubble hks _ (by lia),if_neg (by lia),if_neg (by lia)]
   rw[show min (k + 1) n=k + 1 by lia];intro i j hij hj;show R rk (bubble (aI st'') (lo + k) (lo + k - (lo + l))) (lo + i)<=R rk (bubble (aI st'') (lo + k) (lo + k - (lo + l))) (lo + j);rw[Im hks (by lia),Im hks (by lia),show lo + k - (lo + k - (lo + l))=lo + l by lia];have pre:∀q,lo + l < lo + q->lo + q - 1=lo + (q - 1):=fun q hq=>by lia
   repeat' split
   all_goals first
    | (exfalso;lia)
    |exact gL _
    |exact hlo _ (by lia)
    | (rw[pre _ (by lia)];exact gi (hhi _ (by lia) (by lia)))
    |exact hs' _ _ (by lia) (by lia)
    | (rw[pre _ (by lia)];exact hs' _ _ (by lia) (by lia))
    | (rw[pre _ (by lia),pre _ (by lia)];exact hs' _ _ (by lia) (by lia))
end
noncomputable def iR:Bool->Keyed->Array Keyed->Nat->Nat->Nat->StateT SortSt Sem (Option Nat):=sortPriv% PySem.Builtin.gallop
noncomputable def bey(left:Bool)(key:ax)(arr:Array ax)(base i:Nat):StateT bq Sem (Option Bool):=do
 let x <- de arr (base + i)
 if left then lt' x key else return (<- lt' key x).map (!·)
theorem Lg(left:Bool)(key:ax)(arr:Array ax)(base n hint:Nat):iR left key arr base n hint=(do
 let mut lastofs:=0
 let mut ofs:=1
 let mut lo:=0
 let mut hi:=0
 let some right <- bey left key arr base hint|return none
 if right then
  let maxofs:=n - hint
  for _ in [0:n] do
   if ofs ≥ maxofs then break
   let some more <- bey left key arr base (hint + ofs)|return none
   if !more then break
   lastofs:=ofs
   ofs:=2 * ofs + 1
  lo:=hint + lastofs + 1
  hi:=hint + min ofs maxofs
 else
  let maxofs:=hint + 1
  for _ in [0:n] do
   if ofs ≥ maxofs then break
   let some found <- bey left key arr base (hint - ofs)|return none
   if found then break
   lastofs:=ofs
   ofs:=2 * ofs + 1
  lo:=hint + 1 - min ofs maxofs
  hi:=hint - lastofs
 for _ in [0:n] do
  if lo ≥ hi then break
  let m:=lo + (hi - lo) / 2
  let some more <- bey left key arr base m|return none
  if more then lo:=m + 1 else hi:=m
 return some hi):=rfl
section
variable{prog:aS}{w:az}{A:ba}{E:aa->af->Prop}{s:af}{a₀ x0:Array ax}{κ:e_}{rk:ax->Int}{lo:Nat}{p0:Array (Nat×Nat×Nat)}
noncomputable def bp(rk:ax->Int)(left:Bool)(key:ax)(arr:Array ax)(base i:Nat):Bool:=if left then decide (R rk arr (base + i) < rk key) else decide (R rk arr (base + i)<=rk key)
theorem yh{st:bq}{left:Bool}{key:ax}{arr:Array ax}{base i:Nat}{Q:Option Bool->bq->Prop}(h0:Ax prog w A s κ rk a₀)(hk:kindOf st=κ)(hm:key∈a₀.toList)(ha:∀x∈arr.toList,x∈a₀.toList)(hi:base + i < arr.size)
  (h:Q (some (bp rk left key arr base i)) st):wpS (ay prog w) A E s (bey left key arr base i) Q st:=by
 have e:arr[base + i]?=some arr[base + i]:=getElem?_pos arr _ hi;have hx:arr[base + i]∈a₀.toList:=ha _ (by simp);unfold bp at h;rw[jf e]at h;unfold bey;refine a_ (bW e ?_);cases left with
 |true=>simp only[if_true]at h ⊢;exact zu h0 hk hx hm h
 |false =>
  simp only[bz,if_false]at h ⊢;refine a_ (zu h0 hk hm hx (br ?_));have:(some (decide (rk key < rk arr[base + i]))).map (!·)=some (decide (rk arr[base + i]<=rk key)):=by simp only[n_,<- decide_not,oB]
  rw[this];exact h
theorem aaF{left:Bool}{key:ax}{arr:Array ax}{base n:Nat}(hu:Up rk arr base n){i j:Nat}(hij:i<=j)(hj:j < n)(h:bp rk left key arr base j=true):bp rk left key arr base i=true:=by have:=hu i j hij hj;unfold bp at h ⊢;cases left <;> simp at h ⊢ <;> lia
theorem jV{st:bq}{left:Bool}{key:ax}{arr:Array ax}{base n hint:Nat}{Q:Option Nat->bq->Prop}(h0:Ax prog w A s κ rk a₀)(hk:kindOf st=κ)(hm:key∈a₀.toList)(ha:∀x∈arr.toList,x∈a₀.toList)
  (hb:base + n<=arr.size) (hh:hint < n) (hu:Up rk arr base n)
  (h:∀k,k<=n->(∀i,i < k->bp rk left key arr base i=true)->(∀i,k<=i->i < n->bp rk left key arr base i=false)->Q (some k) st) :
  wpS (ay prog w) A E s (iR left key arr base n hint) Q st:=by
 have mono:=fun {i j:Nat}(hij:i<=j) (hj:j < n)=>aaF (left:=left) (key:=key) hu hij hj;have VR:∀{i j:Nat},i<=j->j < n->bp rk left key arr base i=false->bp rk left key arr base j=false:=fun {i j} hij hj hf=>by
  cases c:bp rk left key arr base j with
  |false=>rfl
  |true=>rw[mono hij hj c]at hf;cases hf
 have last:∀(l0 h0':Nat),l0<=h0'->h0'<=n->(∀i,i < l0->bp rk left key arr base i=true)->(∀i,h0'<=i->i < n->bp rk left key arr base i=false) ->
   ∀(f:Nat->Option (Option Nat)×Nat×Nat->StateT bq Sem (ForInStep (Option (Option Nat)×Nat×Nat))) (k:Option (Option Nat)×Nat×Nat->StateT bq Sem (Option Nat)),
   (∀x l hi,f x (none,l,hi)=if l ≥ hi then pure (ForInStep.done (none,l,hi)) else do
    let __x <- bey left key arr base (l + (hi - l) / 2)
    match __x with
    |some more=>if more=true then pure (ForInStep.yield (none,l + (hi - l) / 2 + 1,hi)) else pure (ForInStep.yield (none,l,l + (hi - l) / 2))
    |_=>pure (ForInStep.done (some none,l,hi)))->(∀l hi,k (none,l,hi)=pure (some hi)) ->
   wpS (ay prog w) A E s (do let r <- forIn [0:n] (none,l0,h0') f;k r) Q st:=by
  intro l0 h0' hlh hhn hlo hhi f k hf hkk;refine a_ (eC (eQ (I:=fun x c st'=>st'=st/\∃l r,c=(none,l,r)/\l<=r/\r<=n/\r - l<=n - x/\(∀i,i < l->bp rk left key arr base i=true)/\(∀i,r<=i->i < n->bp rk left key arr base i=false))
   (Q:=fun c st'=>st'=st/\∃r,c=(none,r,r)/\r<=n/\(∀i,i < r->bp rk left key arr base i=true)/\(∀i,r<=i->i < n->bp rk left key arr base i=false)) ?step ?fQ ⟨rfl,l0,h0',rfl,hlh,hhn,by lia,hlo,hhi⟩) ?post)
  case post =>
   rintro c st' ⟨rfl,r,rfl,h1,h2,h3⟩;rw[hkk];exact br (h r h1 h2 h3)
  case fQ =>
   rintro c st' ⟨rfl,l,r,rfl,h1,h2,h3,h4,h5⟩;obtain rfl:l=r:=by lia
   exact⟨rfl,l,rfl,h2,h4,h5⟩
  case step =>
   rintro x c st' _ hx ⟨rfl,l,r,rfl,h1,h2,h3,h4,h5⟩;rw[hf];by_cases hge:l ≥ r
   ·rw[if_pos hge];obtain rfl:l=r:=by lia
    exact br ⟨rfl,l,rfl,h2,h4,h5⟩
   ·rw[if_neg hge];refine a_ (yh h0 hk hm ha (by lia) ?_);cases c:bp rk left key arr base (l + (r - l) / 2) with
    |true =>
     simp only[if_true];exact br ⟨rfl,_,r,rfl,by lia,h2,by lia,fun i hi=>mono (show i<=l + (r - l) / 2 by lia) (by lia) c,h5⟩
    |false =>
     simp only[bz,if_false];exact br ⟨rfl,l,_,rfl,by lia,by lia,by lia,h4,fun i h6 h7=>VR h6 h7 c⟩
 rw[Lg];dsimp only;refine a_ (yh h0 hk hm ha (by lia) ?_);cases c:bp rk left key arr base hint with
 |true =>
  simp only[if_true];refine a_ (eC (eQ (I:=fun x c st'=>st'=st/\∃lf nM,c=(none,lf,nM)/\x + 1<=nM/\lf < nM/\hint + lf < n/\bp rk left key arr base (hint + lf)=true)
   (Q:=fun c st'=>st'=st/\∃lf nM,c=(none,lf,nM)/\lf < nM/\hint + lf < n/\bp rk left key arr base (hint + lf)=true/\(n - hint<=nM∨(hint + nM < n/\bp rk left key arr base (hint + nM)=false))) ?step ?fQ ⟨rfl,0,1,rfl,by lia,by lia,by lia,c⟩) ?post)
  case post =>
   rintro c st' ⟨rfl,lf,nM,rfl,h1,h2,h3,h4⟩;refine last (hint + lf + 1) (hint + min nM (n - hint)) (by lia) (by lia) (fun i hi=>mono (show i<=hint + lf by lia) h2 h3) (fun i h5 h6=>?_) _ _ (fun x l hi=>rfl) (fun l hi=>rfl);rcases h4 with h4|⟨h7,h8⟩
   ·lia
   ·exact VR (show hint + nM<=i by lia) h6 h8
  case fQ =>
   rintro c st' ⟨rfl,lf,nM,rfl,h1,h2,h3,h4⟩;exact⟨rfl,lf,nM,rfl,h2,h3,h4,.inl (by lia)⟩
  case step =>
   rintro x c st' _ hx ⟨rfl,lf,nM,rfl,h1,h2,h3,h4⟩;dsimp only;by_cases hge:nM ≥ n - hint
   ·rw[if_pos hge];exact br ⟨rfl,lf,nM,rfl,h2,h3,h4,.inl hge⟩
   ·rw[if_neg hge];refine a_ (yh h0 hk hm ha (by lia) ?_);cases d:bp rk left key arr base (hint + nM) with
    |true =>
     simp only[eB,bz,if_false];exact br ⟨rfl,nM,2 * nM + 1,rfl,by lia,by lia,by lia,d⟩
    |false =>
     simp only[lh,if_true];exact br ⟨rfl,lf,nM,rfl,h2,h3,h4,.inr ⟨by lia,d⟩⟩
 |false =>
  simp only[bz,if_false];refine a_ (eC (eQ (I:=fun x c st'=>st'=st/\∃lf nM,c=(none,lf,nM)/\x + 1<=nM/\lf < nM/\lf<=hint/\bp rk left key arr base (hint - lf)=false)
   (Q:=fun c st'=>st'=st/\∃lf nM,c=(none,lf,nM)/\lf < nM/\lf<=hint/\bp rk left key arr base (hint - lf)=false/\(hint + 1<=nM∨(nM<=hint/\bp rk left key arr base (hint - nM)=true))) ?step ?fQ ⟨rfl,0,1,rfl,by lia,by lia,by lia,c⟩) ?post)
  case post =>
   rintro c st' ⟨rfl,lf,nM,rfl,h1,h2,h3,h4⟩;refine last (hint + 1 - min nM (hint + 1)) (hint - lf) (by lia) (by lia) (fun i hi=>?_) (fun i h5 h6=>VR h5 h6 h3) _ _ (fun x l hi=>rfl) (fun l hi=>rfl);rcases h4 with h4|⟨h7,h8⟩
   ·lia
   ·exact mono (show i<=hint - nM by lia) (by lia) h8
  case fQ =>
   rintro c st' ⟨rfl,lf,nM,rfl,h1,h2,h3,h4⟩;exact⟨rfl,lf,nM,rfl,h2,h3,h4,.inl (by lia)⟩
  case step =>
   rintro x c st' _ hx ⟨rfl,lf,nM,rfl,h1,h2,h3,h4⟩;dsimp only;by_cases hge:nM ≥ hint + 1
   ·rw[if_pos hge];exact br ⟨rfl,lf,nM,rfl,h2,h3,h4,.inl hge⟩
   ·rw[if_neg hge];refine a_ (yh h0 hk hm ha (by lia) ?_);cases d:bp rk left key arr base (hint - nM) with
    |false =>
     simp only[bz,if_false];exact br ⟨rfl,nM,2 * nM + 1,rfl,by lia,by lia,by lia,d⟩
    |true =>
     simp only[if_true];exact br ⟨rfl,lf,nM,rfl,h2,h3,h4,.inr ⟨by lia,d⟩⟩
end
noncomputable abbrev jW(rk:ax->Int)(l:List ax):Prop:=l.Pairwise fun x y=>rk x<=rk y
structure Mg (rk:ax->Int)(a b out:Array ax)(ia ib:Nat):Prop where
 ha:ia<=a.size
 hb:ib<=b.size
 sz:out.size=ia + ib
 pm:(out.toList++(a.toList.drop ia++b.toList.drop ib)).Perm (a.toList++b.toList)
 up:jW rk out.toList
 bd:∀x∈out.toList,∀y∈a.toList.drop ia++b.toList.drop ib,rk x<=rk y
noncomputable def Bu(rk:ax->Int)(a b m:Array ax):Prop:=m.toList.Perm (a.toList++b.toList)/\jW rk m.toList
section
variable{rk:ax->Int}{a b out:Array ax}{ia ib k:Nat}{x y:ax}
theorem pI(a:Array ax)(i j:Nat):(a.extract i j).toList=(a.toList.drop i).take (j - i):=by rw[Array.toList_extract,List.extract_eq_take_drop]
theorem mH(l:List ax)(i k:Nat):l.drop i=(l.drop i).take k++l.drop (i + k):=by rw[<- List.drop_drop,my]
theorem Mg.qP(h:Mg rk a b out ia ib)(sa:jW rk a.toList)(hk:ia + k<=a.size)(hc:∀x∈(a.toList.drop ia).take k,∀y∈b.toList.drop ib,rk x<=rk y):Mg rk a b (out++a.extract ia (ia + k)) (ia + k) ib:=by
 have e:(a.extract ia (ia + k)).toList=(a.toList.drop ia).take k:=by rw[pI];congr 1;lia
 have sp:=mH a.toList ia k;have sd:jW rk (a.toList.drop ia):=kc (uv _ _) sa;rw[sp]at sd;obtain⟨s1,s2,s3⟩:=gy.mp sd;refine⟨hk,h.hb,?_,?_,?_,?_⟩
 ·rw[ly,q0,h.sz];lia
 ·rw[ka,e];refine h_.trans (oy ?_) h.pm
  conv=>rhs;rw[sp]
  simp only[eP]
 ·rw[ka,e];refine gy.mpr ⟨h.up,s1,fun x hx y hy=>h.bd x hx y ?_⟩;rw[sp];simp[hy]
 ·intro x hx y hy;rw[ka,e]at hx;rcases dt.mp hx with hx|hx
  ·refine h.bd x hx y ?_;rw[sp];rcases dt.mp hy with hy|hy
   ·simp[hy]
   ·simp[hy]
  ·rcases dt.mp hy with hy|hy
   ·exact s3 x hx y hy
   ·exact hc x hx y hy
theorem Mg.swap(h:Mg rk a b out ia ib):Mg rk b a out ib ia:=by
 refine⟨h.hb,h.ha,by rw[h.sz,Nat.add_comm],?_,h.up,fun x hx y hy=>h.bd x hx y ?_⟩
 ·refine(om _ kf).trans (h.pm.trans kf)
 ·rcases dt.mp hy with hy|hy <;> simp[hy]
theorem Mg.Fj(h:Mg rk a b out ia ib)(sb:jW rk b.toList)(hk:ib + k<=b.size)(hc:∀y∈(b.toList.drop ib).take k,∀x∈a.toList.drop ia,rk y<=rk x):Mg rk a b (out++b.extract ib (ib + k)) ia (ib + k) :=
 (h.swap.qP sb hk hc).swap
theorem Pg{a:Array ax}{i:Nat}{x:ax}(h:a[i]?=some x):out.push x=out++a.extract i (i + 1):=by apply pV.mp;rw[p7,ka,pI];obtain⟨hi,rfl⟩:=fS.mp h;rw[i_ (by simpa using hi),show i + 1 - i=1 by lia];simp
theorem agP{a:Array ax}{i:Nat}{x z:ax}(h:a[i]?=some x)(hz:z∈(a.toList.drop i).take 1):z=x:=by obtain⟨hi,rfl⟩:=fS.mp h;rw[i_ (by simpa using hi)]at hz;simpa using hz
theorem pJ{a:Array ax}{i:Nat}{x z:ax}(sa:jW rk a.toList)(h:a[i]?=some x)(hz:z∈a.toList.drop i):rk x<=rk z:=by
 obtain⟨hi,rfl⟩:=fS.mp h;have sd:jW rk (a.toList.drop i):=kc (uv _ _) sa;rw[i_ (by simpa using hi)]at hz sd;rcases cm.mp hz with rfl|hz
 ·exact gL _
 ·have:=(f7.mp sd).1 z hz;simpa using this
theorem Mg.xG(h:Mg rk a b out ia ib)(sa:jW rk a.toList)(hx:a[ia]?=some x)(hc:∀y∈b.toList.drop ib,rk x<=rk y):Mg rk a b (out.push x) (ia + 1) ib:=by
 rw[Pg hx];obtain⟨hi,_⟩:=fS.mp hx;exact h.qP sa (by lia) fun z hz y hy=>by rw[agP hx hz];exact hc y hy
theorem Mg.CT(h:Mg rk a b out ia ib)(sb:jW rk b.toList)(hx:b[ib]?=some x)(hc:∀y∈a.toList.drop ia,rk x<=rk y):Mg rk a b (out.push x) ia (ib + 1):=(h.swap.xG sb hx hc).swap
theorem Mg.done(h:Mg rk a b out ia ib)(sa:jW rk a.toList)(sb:jW rk b.toList)(hc:∀x∈a.toList.drop ia,∀y∈b.toList.drop ib,rk x<=rk y):Bu rk a b (out++a.extract ia a.size++b.extract ib b.size):=by
 have ha:=h.ha;have hb:=h.hb;have h1:=h.qP (k:=a.size - ia) sa (by lia) fun x hx y hy=>hc x (n6 hx) y hy;rw[show ia + (a.size - ia)=a.size by lia]at h1;have h2:=h1.Fj (k:=b.size - ib) sb (by lia) fun y hy x hx=>by rw[me (by simp)]at hx;cases hx
 rw[show ib + (b.size - ib)=b.size by lia]at h2;refine⟨?_,h2.up⟩;have:=h2.pm;rw[me (by simp),me (by simp)]at this;simpa using this
theorem Mg.Wa(h:Mg rk a b out ia ib)(sa:jW rk a.toList)(sb:jW rk b.toList)(hc:∀y∈b.toList.drop ib,∀x∈a.toList.drop ia,rk y<=rk x):Bu rk a b (out++b.extract ib b.size++a.extract ia a.size):=by obtain⟨h1,h2⟩:=h.swap.done sb sa hc;exact⟨h1.trans kf,h2⟩
theorem lZ{a:Array ax}{i k:Nat}{z:ax}(hz:z∈(a.toList.drop i).take k):∃j,j < k/\a[i + j]?=some z:=by
 obtain⟨j,hj⟩:=jn.mp hz;have hk:j < k:=by
  rcases q8 j k with h|h
  ·exact h
  ·rw[q9 h]at hj;cases hj
 rw[l4 hk,oC]at hj;exact⟨j,hk,by simpa using hj⟩
theorem yH{a:Array ax}{i:Nat}{z:ax}(hz:z∈a.toList.drop i):∃j,i + j < a.size/\a[i + j]?=some z:=by
 obtain⟨j,hj⟩:=jn.mp hz;rw[oC]at hj;have h2:a[i + j]?=some z:=by simpa using hj
 exact⟨j,(fS.mp h2).1,h2⟩
theorem Io(sa:jW rk a.toList)(i n:Nat)(h:i + n<=a.size):Up rk a i n:=by
 intro p q hpq hq;have hp':i + p < a.size:=by lia
 have hq':i + q < a.size:=by lia
 rw[jf (getElem?_pos a (i + p) hp'),jf (getElem?_pos a (i + q) hq')];by_cases e:p=q
 ·subst e;exact gL _
 ·have:=k_.mp sa (i + p) (i + q) (by simpa using hp') (by simpa using hq') (by lia);simpa using this
end
noncomputable def zy:Array Keyed->Array Keyed->StateT SortSt Sem (Array Keyed):=sortPriv% PySem.Builtin.mergeLo
noncomputable def oH(g:Nat):StateT bq Sem Unit:=modify fun s=>q_ (kindOf s) (aI s) (cb s) g (fg s)
theorem Ip(a b:Array ax):zy a b=(do
 rule "list.sort.merge-lo"
 let total:=a.size + b.size
 let done (out:Array ax) (ia ib:Nat):=out++a.extract ia a.size++b.extract ib b.size
 let lastOfA (out:Array ax) (ia ib:Nat):=out++b.extract ib b.size++a.extract ia a.size
 let mut out:Array ax:=#[<- de b 0]
 let mut ia:=0
 let mut ib:=1
 if ib == b.size then return done out ia ib
 if ia + 1 == a.size then return lastOfA out ia ib
 let mut minGallop:=gallopOf (<- get)
 for _ in [0:total] do
  let mut acount:=0
  let mut bcount:=0
  for _ in [0:total] do
   let some bWins <- lt' (<- de b ib) (<- de a ia)|return done out ia ib
   if bWins then
    out:=out.push (<- de b ib);ib:=ib + 1;bcount:=bcount + 1;acount:=0
    if ib == b.size then return done out ia ib
    if bcount ≥ minGallop then break
   else
    out:=out.push (<- de a ia);ia:=ia + 1;acount:=acount + 1;bcount:=0
    if ia + 1 == a.size then return lastOfA out ia ib
    if acount ≥ minGallop then break
  rule "list.sort.gallop"
  minGallop:=minGallop + 1
  for _ in [0:total] do
   if minGallop > 1 then minGallop:=minGallop - 1
   oH minGallop
   let some k <- iR false (<- de b ib) a ia (a.size - ia) 0|return done out ia ib
   acount:=k
   if k > 0 then
    out:=out++a.extract ia (ia + k);ia:=ia + k
    if ia + 1 == a.size then return lastOfA out ia ib
    if ia == a.size then return done out ia ib
   out:=out.push (<- de b ib);ib:=ib + 1
   if ib == b.size then return done out ia ib
   let some k <- iR true (<- de a ia) b ib (b.size - ib) 0|return done out ia ib
   bcount:=k
   if k > 0 then
    out:=out++b.extract ib (ib + k);ib:=ib + k
    if ib == b.size then return done out ia ib
   out:=out.push (<- de a ia);ia:=ia + 1
   if ia + 1 == a.size then return lastOfA out ia ib
   if acount < 7 && bcount < 7 then break
  minGallop:=minGallop + 1
  oH minGallop
 unsupported "internal:list.sort.merge-bound"):=rfl
noncomputable abbrev LoS:=Option (Array ax)×Array ax×Nat×Nat×Nat×Nat×Nat
noncomputable def Ph(a b out:Array ax)(ia ib mg ac bc:Nat):StateT bq Sem (ForInStep LoS):=do
 let x <- de a ia
 if (ia + 1 + 1 == a.size)=true then pure (.done (some (out.push x++b.extract ib b.size++a.extract (ia + 1) a.size),out.push x,ia + 1,ib,mg,ac,bc))
 else if (decide (ac < 7) && decide (bc < 7))=true then pure (.done (none,out.push x,ia + 1,ib,mg,ac,bc))
 else pure (.yield (none,out.push x,ia + 1,ib,mg,ac,bc))
noncomputable def Fl(a b out:Array ax)(ia ib mg ac bc:Nat):StateT bq Sem (ForInStep LoS):=do
 let y <- de b ib
 if (ib + 1 == b.size)=true then pure (.done (some (out.push y++a.extract ia a.size++b.extract (ib + 1) b.size),out.push y,ia,ib + 1,mg,ac,bc))
 else do
  let x <- de a ia
  let __x <- iR true x b (ib + 1) (b.size - (ib + 1)) 0
  match __x with
  |some k =>
   if k > 0 then
    if (ib + 1 + k == b.size)=true then pure (.done (some (out.push y++b.extract (ib + 1) (ib + 1 + k)++a.extract ia a.size++b.extract (ib + 1 + k) b.size),out.push y++b.extract (ib + 1) (ib + 1 + k),ia,ib + 1 + k,mg,ac,k))
    else Ph a b (out.push y++b.extract (ib + 1) (ib + 1 + k)) ia (ib + 1 + k) mg ac k
   else Ph a b (out.push y) ia (ib + 1) mg ac k
  |_=>pure (.done (some (out.push y++a.extract ia a.size++b.extract (ib + 1) b.size),out.push y,ia,ib + 1,mg,ac,bc))
noncomputable def cQ(st st':bq):Prop:=aI st'=aI st/\kindOf st'=kindOf st/\cb st'=cb st/\fg st'=fg st
theorem cQ.refl(st:bq):cQ st st:=⟨rfl,rfl,rfl,rfl⟩
theorem cQ.trans{x y z:bq}(h:cQ x y)(g:cQ y z):cQ x z:=⟨g.1.trans h.1,g.2.1.trans h.2.1,g.2.2.1.trans h.2.2.1,g.2.2.2.trans h.2.2.2⟩
section
variable{prog:aS}{w:az}{A:ba}{E:aa->af->Prop}{s:af}{a₀:Array ax}{κ:e_}{rk:ax->Int}{a b:Array ax}
theorem oJ{g:Nat}{Q:Unit->bq->Prop}{st:bq}(h:∀st',cQ st st'->Q () st'):wpS (ay prog w) A E s (oH g) Q st :=
 iN (h _ ⟨rfl,rfl,rfl,rfl⟩)
structure Ir (prog:aS)(w:az)(A:ba)(s:af)(κ:e_)(rk:ax->Int)(a₀ a b:Array ax):Prop where
 h0:Ax prog w A s κ rk a₀
 sa:jW rk a.toList
 sb:jW rk b.toList
 ma:∀x∈a.toList,x∈a₀.toList
 mb:∀x∈b.toList,x∈a₀.toList
 la:0 < a.size
 lb:0 < b.size
 lt0:R rk b 0 < R rk a 0
 last:∀x∈b.toList,rk x<=R rk a (a.size - 1)
theorem nO{xs:Array ax}{i:Nat}{x:ax}(h:xs[i]?=some x):x∈xs.toList:=by obtain⟨hi,rfl⟩:=fS.mp h;simp
theorem eH{xs:Array ax}{i:Nat}(h:i < xs.size):∃x,xs[i]?=some x:=⟨_,getElem?_pos xs i h⟩
theorem Ir.Pj(m:Ir prog w A s κ rk a₀ a b){out:Array ax}{ia ib:Nat}(h:Mg rk a b out ia ib)(e:ia + 1=a.size):Bu rk a b (out++b.extract ib b.size++a.extract ia a.size):=by refine h.Wa m.sa m.sb fun y hy x hx=>?_;obtain⟨x',hx'⟩:=eH (xs:=a) (i:=ia) (by lia);have e1:=m.last y (ui hy);rw[show a.size - 1=ia by lia,jf hx']at e1;exact eL e1 (pJ m.sa hx' hx)
theorem Ir.aaG(m:Ir prog w A s κ rk a₀ a b){out:Array ax}{ia ib:Nat}(h:Mg rk a b out ia ib)(e:ib=b.size):Bu rk a b (out++a.extract ia a.size++b.extract ib b.size):=by refine h.done m.sa m.sb fun x hx y hy=>?_;subst e;rw[me (by simp)]at hy;cases hy
noncomputable def LoQ(rk:ax->Int)(a b:Array ax)(κ:e_)(st:bq)(n:Nat):ForInStep LoS->bq->Prop:=fun r st'=>cQ st st'/\match r with
 | .done c=>(∃m,c.1=some m/\Bu rk a b m)∨(c.1=none/\Mg rk a b c.2.1 c.2.2.1 c.2.2.2.1/\c.2.2.1 + 1 < a.size/\c.2.2.2.1 < b.size/\n<=c.2.1.size)
 | .yield c=>c.1=none/\Mg rk a b c.2.1 c.2.2.1 c.2.2.2.1/\c.2.2.1 + 1 < a.size/\c.2.2.2.1 < b.size/\n < c.2.1.size
theorem CV(m:Ir prog w A s κ rk a₀ a b){out:Array ax}{ia ib mg ac bc n:Nat}{st0 st:bq}(hS:cQ st0 st)(h:Mg rk a b out ia ib)(h1:ia + 1 < a.size)(h2:ib < b.size)(hn:n<=out.size)(hc:∀x y,a[ia]?=some x->y∈b.toList.drop ib->rk x<=rk y) :
  wpS (ay prog w) A E s (Ph a b out ia ib mg ac bc) (LoQ rk a b κ st0 n) st:=by
 unfold Ph;obtain⟨x,hx⟩:=eH (xs:=a) (i:=ia) (by lia);refine a_ (bW hx ?_);have h':=h.xG m.sa hx (fun y hy=>hc x y hx hy);have sz:n < (out.push x).size:=by rw[gN];lia
 split
 ·rename_i e;exact br ⟨hS,.inl ⟨_,rfl,m.Pj h' (by simpa using e)⟩⟩
 ·rename_i e;have e':ia + 1 + 1 < a.size:=by
   have:¬ia + 1 + 1=a.size:=by simpa using e
   lia
  split
  ·exact br ⟨hS,.inr ⟨rfl,h',e',h2,gm sz⟩⟩
  ·exact br ⟨hS,rfl,h',e',h2,sz⟩
theorem zA(m:Ir prog w A s κ rk a₀ a b){out:Array ax}{ia ib mg ac bc n:Nat}{st0 st:bq}(hk:kindOf st=κ)(hS:cQ st0 st)(h:Mg rk a b out ia ib)(h1:ia + 1 < a.size)(h2:ib < b.size)(hn:n<=out.size)(hc:∀y x,b[ib]?=some y->x∈a.toList.drop ia->rk y<=rk x) :
  wpS (ay prog w) A E s (Fl a b out ia ib mg ac bc) (LoQ rk a b κ st0 n) st:=by
 unfold Fl;obtain⟨y,hy⟩:=eH (xs:=b) (i:=ib) h2;refine a_ (bW hy ?_);have h':=h.CT m.sb hy (fun x hx=>hc y x hy hx);have sz:n < (out.push y).size:=by rw[gN];lia
 split
 ·rename_i e;exact br ⟨hS,.inl ⟨_,rfl,m.aaG h' (by simpa using e)⟩⟩
 ·rename_i e;have e':ib + 1 < b.size:=by
   have:¬ib + 1=b.size:=by simpa using e
   lia
  obtain⟨x,hx⟩:=eH (xs:=a) (i:=ia) (by lia);refine a_ (bW hx ?_);refine a_ (jV m.h0 hk (m.ma x (nO hx)) m.mb (by lia) (by lia) (Io m.sb _ _ (by lia)) fun k k1 k2 k3=>?_);have chunk:∀z∈(b.toList.drop (ib + 1)).take k,∀v∈a.toList.drop ia,rk z<=rk v:=fun z hz v hv=>by
   obtain⟨j,hj,ej⟩:=lZ hz;have:=k2 j hj;unfold bp at this;rw[jf ej]at this;have q:rk z < rk x:=by simpa using this
   exact eL (gi q) (pJ m.sa hx hv)
  have rest:∀v,v∈b.toList.drop (ib + 1 + k)->rk x<=rk v:=fun v hv=>by obtain⟨j,hj,ej⟩:=yH hv;rw[oD (ib + 1) k j]at ej;have:=k3 (k + j) (by lia) (by lia);unfold bp at this;rw[jf ej]at this;simpa using this
  dsimp only;split
  ·rename_i kp;have h'':=h'.Fj m.sb (k:=k) (by lia) chunk;have sz':n<=(out.push y++b.extract (ib + 1) (ib + 1 + k)).size:=by rw[ly];lia
   split
   ·rename_i e2;exact br ⟨hS,.inl ⟨_,rfl,m.aaG h'' (by simpa using e2)⟩⟩
   ·rename_i e2;have e2':ib + 1 + k < b.size:=by
     have:¬ib + 1 + k=b.size:=by simpa using e2
     lia
    exact CV m hS h'' h1 e2' sz' fun x' v hx' hv=>by rw[hx]at hx';cases hx';exact rest v hv
  ·rename_i kp;obtain rfl:k=0:=by lia
   exact CV m hS h' h1 e' (gm sz) fun x' v hx' hv=>by rw[hx]at hx';cases hx';exact rest v hv
end
section
variable{prog:aS}{w:az}{A:ba}{E:aa->af->Prop}{s:af}{a₀:Array ax}{κ:e_}{rk:ax->Int}{a b:Array ax}
theorem Mg.nil:Mg rk a b #[] 0 0:=⟨eJ _,eJ _,rfl,by simp,by simp,fun x hx=>by simp at hx⟩
theorem gG{a b:Nat}(h:¬(a == b)=true):a≠b:=fun e=>h (by simp[e])
theorem lC{a b:Nat}(h:(a == b)=true):a=b:=by simpa using h
theorem cj{α:Type}{c:Prop}[Decidable c]{t f:StateT bq Sem α}{Q:α->bq->Prop}{st:bq}(ht:c->wpS (ay prog w) A E s t Q st)(hf:¬c->wpS (ay prog w) A E s f Q st):wpS (ay prog w) A E s (if c then t else f) Q st:=by
 by_cases h:c
 ·rw[if_pos h];exact ht h
 ·rw[if_neg h];exact hf h
theorem zB(m:Ir prog w A s κ rk a₀ a b){out:Array ax}{ia ib n:Nat}{st0 st:bq}(hk:kindOf st=κ)(hS:cQ st0 st)(h:Mg rk a b out ia ib)(h1:ia + 1 < a.size)(h2:ib < b.size)(hn:n<=out.size)
  {f:Option Nat->StateT bq Sem (ForInStep LoS)}{mg bc:Nat}(hf:∀k,f (some k)=if k > 0 then
    if (ia + k + 1 == a.size)=true then pure (.done (some (out++a.extract ia (ia + k)++b.extract ib b.size++a.extract (ia + k) a.size),out++a.extract ia (ia + k),ia + k,ib,mg,k,bc))
    else if (ia + k == a.size)=true then pure (.done (some (out++a.extract ia (ia + k)++a.extract (ia + k) a.size++b.extract ib b.size),out++a.extract ia (ia + k),ia + k,ib,mg,k,bc))
    else Fl a b (out++a.extract ia (ia + k)) (ia + k) ib mg k bc
   else Fl a b out ia ib mg k bc) :
  wpS (ay prog w) A E s (do let y <- de b ib;let r <- iR false y a ia (a.size - ia) 0;f r) (LoQ rk a b κ st0 n) st:=by
 obtain⟨y,hy⟩:=eH (xs:=b) (i:=ib) h2;refine a_ (bW hy ?_);refine a_ (jV m.h0 hk (m.mb y (nO hy)) m.ma (by lia) (by lia) (Io m.sa _ _ (by lia)) fun k k1 k2 k3=>?_);rw[hf];have chunk:∀z∈(a.toList.drop ia).take k,∀v∈b.toList.drop ib,rk z<=rk v:=fun z hz v hv=>by
  obtain⟨j,hj,ej⟩:=lZ hz;have:=k2 j hj;unfold bp at this;rw[jf ej]at this;have q:rk z<=rk y:=by simpa using this
  exact eL q (pJ m.sb hy hv)
 have rest:∀v,v∈a.toList.drop (ia + k)->rk y<=rk v:=fun v hv=>by
  obtain⟨j,hj,ej⟩:=yH hv;rw[oD ia k j]at ej;have:=k3 (k + j) (by lia) (by lia);unfold bp at this;rw[jf ej]at this;have q:rk y < rk v:=by simpa using this
  exact gi q
 split
 ·rename_i kp;have h':=h.qP m.sa (k:=k) (by lia) chunk;have sz':n<=(out++a.extract ia (ia + k)).size:=by rw[ly];lia
  split
  ·rename_i e;exact br ⟨hS,.inl ⟨_,rfl,m.Pj h' (lC e)⟩⟩
  ·rename_i e;have e:=gG e;split
   ·rename_i e2;refine br ⟨hS,.inl ⟨_,rfl,h'.done m.sa m.sb fun x hx=>?_⟩⟩;rw[lC e2,me (by simp)]at hx;cases hx
   ·rename_i e2;have e2:=gG e2;exact zA m hk hS h' (by lia) h2 sz' fun y' x hy' hx=>by rw[hy]at hy';cases hy';exact rest x hx
 ·rename_i kp;obtain rfl:k=0:=by lia
  exact zA m hk hS h h1 h2 hn fun y' x hy' hx=>by rw[hy]at hy';cases hy';exact rest x hx
theorem Iu(m:Ir prog w A s κ rk a₀ a b){st:bq}(hk:kindOf st=κ){Q:Array ax->bq->Prop}(h:∀mm st',cQ st st'->Bu rk a b mm->Q mm st') :
  wpS (ay prog w) A E s (zy a b) Q st:=by
 rw[Ip];dsimp only;refine a_ (lx (kv ⟨rfl,?_⟩));obtain⟨y0,hy0⟩:=eH (xs:=b) (i:=0) m.lb;obtain⟨x0,hx0⟩:=eH (xs:=a) (i:=0) m.la;refine a_ (bW hy0 ?_);have l0:=m.lt0;rw[jf hy0,jf hx0]at l0;have M0:Mg rk a b #[y0] 0 1:=Mg.nil.CT m.sb hy0 fun v hv=>eL (gi l0) (pJ m.sa hx0 hv);have la:=m.la;have lb:=m.lb;refine cj (fun e=>br (h _ _ (.refl _) (m.aaG M0 (lC e)))) fun e1=>?_;have e1:=gG e1;refine cj (fun e=>br (h _ _ (.refl _) (m.Pj M0 (lC e)))) fun e2=>?_;have e2:=gG e2;refine a_ (gE ?_);refine a_ (eC (eQ (I:=fun x c st'=>cQ st st'/\∃out ia ib mg,c=(none,out,ia,ib,mg)/\Mg rk a b out ia ib/\ia + 1 < a.size/\ib < b.size/\x + 1<=out.size)
  (Q:=fun c st'=>cQ st st'/\∃mm rest,c=(some mm,rest)/\Bu rk a b mm) ?step ?fQ ⟨.refl _,#[y0],0,1,_,rfl,M0,by lia,by lia,by simp⟩) ?post)
 case post =>
  rintro c st' ⟨hS,mm,rest,rfl,hr⟩;exact br (h mm st' hS hr)
 case fQ =>
  rintro c st' ⟨hS,out,ia,ib,mg,rfl,hM,h1,h2,h3⟩;have:=hM.sz;lia
 case step =>
  rintro x c st' _ hx ⟨hS,out,ia,ib,mg,rfl,hM,h1,h2,h3⟩;dsimp only;refine a_ (eC (eQ (I:=fun y c st''=>cQ st st''/\∃out ia ib ac bc,c=(none,out,ia,ib,ac,bc)/\Mg rk a b out ia ib/\ia + 1 < a.size/\ib < b.size/\x + 1 + y<=out.size)
   (Q:=fun c st''=>cQ st st''/\((∃mm rest,c=(some mm,rest)/\Bu rk a b mm)∨∃out ia ib ac bc,c=(none,out,ia,ib,ac,bc)/\Mg rk a b out ia ib/\ia + 1 < a.size/\ib < b.size/\x + 2<=out.size)) ?istep ?ifin ⟨hS,out,ia,ib,0,0,rfl,hM,h1,h2,by lia⟩) ?ipost)
  case ifin =>
   rintro c st'' ⟨hS,out,ia,ib,ac,bc,rfl,hM,h1,h2,h3⟩;have:=hM.sz;lia
  case istep =>
   rintro y c st'' _ hy ⟨hS,out,ia,ib,ac,bc,rfl,hM,h1,h2,h3⟩;dsimp only;obtain⟨p,hp⟩:=eH (xs:=b) (i:=ib) h2;obtain⟨q,hq⟩:=eH (xs:=a) (i:=ia) (by lia);refine a_ (bW hp (a_ (bW hq (a_ (zu m.h0 (hS.2.1.trans hk) (m.mb p (nO hp)) (m.ma q (nO hq)) ?_)))));by_cases c:rk p < rk q
   ·simp only[c,decide_true,if_true];refine a_ (bW hp ?_);have hM':=hM.CT m.sb hp fun v hv=>eL (gi c) (pJ m.sa hq hv);split
    ·rename_i e;exact br ⟨hS,.inl ⟨_,_,rfl,m.aaG hM' (lC e)⟩⟩
    ·rename_i e;have e:=gG e;split
     ·exact br ⟨hS,.inr ⟨_,_,_,_,_,rfl,hM',h1,by lia,by rw[gN];lia⟩⟩
     ·exact br ⟨hS,_,_,_,_,_,rfl,hM',h1,by lia,by rw[gN];lia⟩
   ·simp only[c,decide_false,bz,if_false];refine a_ (bW hq ?_);have hM':=hM.xG m.sa hq fun v hv=>eL (oB.mp c) (pJ m.sb hp hv);split
    ·rename_i e;exact br ⟨hS,.inl ⟨_,_,rfl,m.Pj hM' (lC e)⟩⟩
    ·rename_i e;have e:=gG e;split
     ·exact br ⟨hS,.inr ⟨_,_,_,_,_,rfl,hM',by lia,h2,by rw[gN];lia⟩⟩
     ·exact br ⟨hS,_,_,_,_,_,rfl,hM',by lia,h2,by rw[gN];lia⟩
  case ipost =>
   rintro c st'' ⟨hS,⟨mm,rest,rfl,hr⟩|⟨out,ia,ib,ac,bc,rfl,hM,h1,h2,h3⟩⟩
   ·exact br ⟨hS,mm,_,rfl,hr⟩
   ·dsimp only;refine a_ (lx (kv ⟨rfl,?_⟩));refine a_ (eC (eQ (I:=fun y c st3=>cQ st st3/\∃out ia ib mg ac bc,c=(none,out,ia,ib,mg,ac,bc)/\Mg rk a b out ia ib/\ia + 1 < a.size/\ib < b.size/\x + 2 + y<=out.size)
     (Q:=fun c st3=>cQ st st3/\((∃mm rest,c=(some mm,rest)/\Bu rk a b mm)∨∃out ia ib mg ac bc,c=(none,out,ia,ib,mg,ac,bc)/\Mg rk a b out ia ib/\ia + 1 < a.size/\ib < b.size/\x + 2<=out.size)) ?Wb ?aeo ⟨hS,out,ia,ib,_,ac,bc,rfl,hM,h1,h2,by lia⟩) ?Wc)
    case aeo =>
     rintro c st3 ⟨hS,out,ia,ib,mg,ac,bc,rfl,hM,h1,h2,h3⟩;have:=hM.sz;lia
    case Wc =>
     rintro c st3 ⟨hS,⟨mm,rest,rfl,hr⟩|⟨out,ia,ib,mg,ac,bc,rfl,hM,h1,h2,h3⟩⟩
     ·exact br ⟨hS,mm,_,rfl,hr⟩
     ·dsimp only;refine a_ (oJ fun CG Bt=>?_);exact br ⟨hS.trans Bt,_,_,_,_,rfl,hM,h1,h2,by lia⟩
    case Wb =>
     rintro y c st3 _ hy ⟨hS,out,ia,ib,mg,ac,bc,rfl,hM,h1,h2,h3⟩;have cD:∀(c:LoS) (st':bq),LoQ rk a b κ st (x + 2 + y) (.done c) st'->cQ st st'/\((∃mm rest,c=(some mm,rest)/\Bu rk a b mm)∨∃out ia ib mg ac bc,c=(none,out,ia,ib,mg,ac,bc)/\Mg rk a b out ia ib/\ia + 1 < a.size/\ib < b.size/\x + 2<=out.size):=by
      rintro⟨c1,out,ia,ib,mg,ac,bc⟩ st' ⟨hS,⟨mm,e,hr⟩|⟨e,hM,h1,h2,h3⟩⟩
      ·cases e;exact⟨hS,.inl ⟨mm,_,rfl,hr⟩⟩
      ·cases e;dsimp only at h1 h2 h3;exact⟨hS,.inr ⟨_,_,_,_,_,_,rfl,hM,h1,h2,by lia⟩⟩
     have cY:∀(c:LoS) (st':bq),LoQ rk a b κ st (x + 2 + y) (.yield c) st'->cQ st st'/\∃out ia ib mg ac bc,c=(none,out,ia,ib,mg,ac,bc)/\Mg rk a b out ia ib/\ia + 1 < a.size/\ib < b.size/\x + 2 + (y + 1)<=out.size:=by rintro⟨c1,out,ia,ib,mg,ac,bc⟩ st' ⟨hS,e,hM,h1,h2,h3⟩;cases e;dsimp only at h1 h2 h3;exact⟨hS,_,_,_,_,_,_,rfl,hM,h1,h2,by lia⟩
     dsimp only;refine cj (fun _=>?_) (fun _=>?_)
     ·refine a_ (oJ fun CG Bt=>?_);exact eC (zB m ((hS.trans Bt).2.1.trans hk) (hS.trans Bt) hM h1 h2 h3 (fun k=>rfl)) fun r st' hq=>match r,hq with|.done c,hq=>cD c st' hq|.yield c,hq=>cY c st' hq
     ·refine a_ (oJ fun CG Bt=>?_);exact eC (zB m ((hS.trans Bt).2.1.trans hk) (hS.trans Bt) hM h1 h2 h3 (fun k=>rfl)) fun r st' hq=>match r,hq with|.done c,hq=>cD c st' hq|.yield c,hq=>cY c st' hq
end
noncomputable def zE:Array Keyed->Array Keyed->StateT SortSt Sem (Array Keyed):=sortPriv% PySem.Builtin.mergeHi
theorem Iv(a b:Array ax):zE a b=(do
 rule "list.sort.merge-hi"
 let total:=a.size + b.size
 let done (out:Array ax) (na nb:Nat):=a.extract 0 na++b.extract 0 nb++out.reverse
 let firstOfB (out:Array ax) (na nb:Nat):=b.extract 0 nb++a.extract 0 na++out.reverse
 let mut na:=a.size - 1
 let mut nb:=b.size
 let mut out:Array ax:=#[<- de a na]
 if na == 0 then return done out na nb
 if nb == 1 then return firstOfB out na nb
 let mut minGallop:=gallopOf (<- get)
 for _ in [0:total] do
  let mut acount:=0
  let mut bcount:=0
  for _ in [0:total] do
   let some aWins <- lt' (<- de b (nb - 1)) (<- de a (na - 1))|return done out na nb
   if aWins then
    na:=na - 1;out:=out.push (<- de a na);acount:=acount + 1;bcount:=0
    if na == 0 then return done out na nb
    if acount ≥ minGallop then break
   else
    nb:=nb - 1;out:=out.push (<- de b nb);bcount:=bcount + 1;acount:=0
    if nb == 1 then return firstOfB out na nb
    if bcount ≥ minGallop then break
  rule "list.sort.gallop"
  minGallop:=minGallop + 1
  for _ in [0:total] do
   if minGallop > 1 then minGallop:=minGallop - 1
   oH minGallop
   let some at_ <- iR false (<- de b (nb - 1)) a 0 na (na - 1)|return done out na nb
   let k:=na - at_
   acount:=k
   if k > 0 then
    out:=out++(a.extract at_ na).reverse;na:=at_
    if na == 0 then return done out na nb
   nb:=nb - 1;out:=out.push (<- de b nb)
   if nb == 1 then return firstOfB out na nb
   let some at_ <- iR true (<- de a (na - 1)) b 0 nb (nb - 1)|return done out na nb
   let k:=nb - at_
   bcount:=k
   if k > 0 then
    out:=out++(b.extract at_ nb).reverse;nb:=at_
    if nb == 1 then return firstOfB out na nb
    if nb == 0 then return done out na nb
   na:=na - 1;out:=out.push (<- de a na)
   if na == 0 then return done out na nb
   if acount < 7 && bcount < 7 then break
  minGallop:=minGallop + 1
  oH minGallop
 unsupported "internal:list.sort.merge-bound"):=rfl
structure Mh (rk:ax->Int)(a b out:Array ax)(na nb:Nat):Prop where
 ha:na<=a.size
 hb:nb<=b.size
 sz:out.size + (na + nb)=a.size + b.size
 pm:((a.toList.take na++b.toList.take nb)++out.toList.reverse).Perm (a.toList++b.toList)
 up:jW rk out.toList.reverse
 bd:∀y∈a.toList.take na++b.toList.take nb,∀x∈out.toList,rk y<=rk x
section
variable{rk:ax->Int}{a b out:Array ax}{na nb k:Nat}{x y:ax}
theorem Lh(l:List ax){i n:Nat}(h:i<=n):l.take n=l.take i++(l.take n).drop i:=by
 conv=>lhs;rw[<- my i (l.take n)]
 rw[List.take_take,Nat.min_eq_left h]
theorem Mh.qP(h:Mh rk a b out na nb)(sa:jW rk a.toList)(hk:k<=na)(hc:∀x∈(a.toList.take na).drop k,∀y∈b.toList.take nb,rk y<=rk x):Mh rk a b (out++(a.extract k na).reverse) k nb:=by
 have ha:=h.ha;have e:(a.extract k na).toList=(a.toList.take na).drop k:=by rw[pI,List.drop_take]
 have sp:=Lh a.toList hk;have sd:jW rk (a.toList.take na):=kc (nE _ _) sa;rw[sp]at sd;obtain⟨s1,s2,s3⟩:=gy.mp sd;have er:(out++(a.extract k na).reverse).toList.reverse=(a.toList.take na).drop k++out.toList.reverse:=by rw[ka,List.reverse_append,Array.toList_reverse,List.reverse_reverse,e]
 refine⟨by lia,h.hb,?_,?_,?_,?_⟩
 ·have:=h.sz;rw[ly,Array.size_reverse,q0];lia
 ·rw[er];refine h_.trans ?_ h.pm
  conv=>rhs;rw[sp]
  simp only[eP];refine om _ ?_;rw[<- eP,<- eP];exact vE _ kf
 ·rw[er];refine gy.mpr ⟨s2,h.up,fun x hx y hy=>h.bd x ?_ y (rf.mp hy)⟩;rw[sp];simp[hx]
 ·intro y hy x hx;have hx':x∈(a.toList.take na).drop k++out.toList.reverse:=by rw[<- er];exact rf.mpr hx
  rcases dt.mp hx' with hx|hx
  ·rcases dt.mp hy with hy|hy
   ·exact s3 y hy x hx
   ·exact hc x hx y hy
  ·refine h.bd y ?_ x (rf.mp hx);rw[sp];rcases dt.mp hy with hy|hy <;> simp[hy]
theorem Mh.swap(h:Mh rk a b out na nb):Mh rk b a out nb na:=by
 refine⟨h.hb,h.ha,by have:=h.sz;lia,?_,h.up,fun y hy x hx=>h.bd y ?_ x hx⟩
 ·exact(vE _ kf).trans (h.pm.trans kf)
 ·rcases dt.mp hy with hy|hy <;> simp[hy]
theorem Mh.Fj(h:Mh rk a b out na nb)(sb:jW rk b.toList)(hk:k<=nb)(hc:∀y∈(b.toList.take nb).drop k,∀x∈a.toList.take na,rk x<=rk y):Mh rk a b (out++(b.extract k nb).reverse) na k :=
 (h.swap.qP sb hk hc).swap
theorem Wd{a:Array ax}{n:Nat}{x:ax}(hn:0 < n)(h:a[n - 1]?=some x):out.push x=out++(a.extract (n - 1) n).reverse:=by
 have e:=Pg (out:=#[]) h;have e2:a.extract (n - 1) n=#[x]:=by rw[show n - 1 + 1=n by lia]at e;simpa using e.symm
 rw[e2];rfl
theorem aiU{a:Array ax}{n:Nat}{x z:ax}(hn:0 < n)(h:a[n - 1]?=some x)(hz:z∈(a.toList.take n).drop (n - 1)):z=x:=by
 obtain⟨j,hj⟩:=jn.mp hz;rw[oC]at hj;have hl:n - 1 + j < n:=by
  rcases q8 (n - 1 + j) n with q|q
  ·exact q
  ·rw[q9 q]at hj;cases hj
 obtain rfl:j=0:=by lia
 rw[l4 hl]at hj;have:a[n - 1]?=some z:=by simpa using hj
 rw[this]at h;cases h;rfl
theorem vo{a:Array ax}{n:Nat}{x z:ax}(hn:0 < n)(sa:jW rk a.toList)(h:a[n - 1]?=some x)(hz:z∈a.toList.take n):rk z<=rk x:=by
 obtain⟨j,hj⟩:=jn.mp hz;have hl:j < n:=by
  rcases q8 j n with q|q
  ·exact q
  ·rw[q9 q]at hj;cases hj
 rw[l4 hl]at hj;have hj':a[j]?=some z:=by simpa using hj
 obtain⟨q1,_⟩:=fS.mp hj';obtain⟨q2,_⟩:=fS.mp h;have:=Io sa 0 a.size (by lia) j (n - 1) (by lia) (by lia);rw[gS,gS,jf hj',jf h]at this;exact this
theorem Mh.xG(h:Mh rk a b out na nb)(sa:jW rk a.toList)(hn:0 < na)(hx:a[na - 1]?=some x)(hc:∀y∈b.toList.take nb,rk y<=rk x):Mh rk a b (out.push x) (na - 1) nb:=by
 rw[Wd hn hx];exact h.qP sa (by lia) fun z hz y hy=>by rw[aiU hn hx hz];exact hc y hy
theorem Mh.CT(h:Mh rk a b out na nb)(sb:jW rk b.toList)(hn:0 < nb)(hx:b[nb - 1]?=some x)(hc:∀y∈a.toList.take na,rk y<=rk x):Mh rk a b (out.push x) na (nb - 1):=(h.swap.xG sb hn hx hc).swap
theorem Mh.done(h:Mh rk a b out na nb)(sa:jW rk a.toList)(sb:jW rk b.toList)(hc:∀x∈a.toList.take na,∀y∈b.toList.take nb,rk x<=rk y):Bu rk a b (a.extract 0 na++b.extract 0 nb++out.reverse):=by
 have e:(a.extract 0 na++b.extract 0 nb++out.reverse).toList=(a.toList.take na++b.toList.take nb)++out.toList.reverse:=by rw[ka,ka,pI,pI,Array.toList_reverse];simp
 refine⟨by rw[e];exact h.pm,?_⟩;rw[e];refine gy.mpr ⟨gy.mpr ⟨kc (nE _ _) sa,kc (nE _ _) sb,hc⟩,h.up,fun y hy x hx=>h.bd y hy x (rf.mp hx)⟩
theorem Mh.Wa(h:Mh rk a b out na nb)(sa:jW rk a.toList)(sb:jW rk b.toList)(hc:∀y∈b.toList.take nb,∀x∈a.toList.take na,rk y<=rk x):Bu rk a b (b.extract 0 nb++a.extract 0 na++out.reverse):=by obtain⟨h1,h2⟩:=h.swap.done sb sa hc;exact⟨h1.trans kf,h2⟩
theorem Fo{a:Array ax}{n k:Nat}{z:ax}(hz:z∈(a.toList.take n).drop k):∃j,k<=j/\j < n/\a[j]?=some z:=by
 obtain⟨j,hj⟩:=jn.mp hz;rw[oC]at hj;have hl:k + j < n:=by
  rcases q8 (k + j) n with q|q
  ·exact q
  ·rw[q9 q]at hj;cases hj
 rw[l4 hl]at hj;exact⟨k + j,by lia,hl,by simpa using hj⟩
theorem Pk{a:Array ax}{n:Nat}{z:ax}(hz:z∈a.toList.take n):∃j,j < n/\a[j]?=some z:=by obtain⟨j,_,h2,h3⟩:=Fo (k:=0) (by simpa using hz);exact⟨j,h2,h3⟩
theorem Mh.nil:Mh rk a b #[] a.size b.size:=⟨bE _,bE _,by simp,by rw[ue (by simp),ue (by simp)];simp,by simp,fun y _ x hx=>by simp at hx⟩
end
noncomputable abbrev HiS:=Option (Array ax)×Nat×Nat×Array ax×Nat×Nat×Nat
noncomputable def Pn(a b out:Array ax)(na nb mg ac bc:Nat):StateT bq Sem (ForInStep HiS):=do
 let x <- de a (na - 1)
 if (na - 1 == 0)=true then pure (.done (some (a.extract 0 (na - 1)++b.extract 0 nb++(out.push x).reverse),na - 1,nb,out.push x,mg,ac,bc))
 else if (decide (ac < 7) && decide (bc < 7))=true then pure (.done (none,na - 1,nb,out.push x,mg,ac,bc))
 else pure (.yield (none,na - 1,nb,out.push x,mg,ac,bc))
noncomputable def Fp(a b out:Array ax)(na nb mg ac bc:Nat):StateT bq Sem (ForInStep HiS):=do
 let y <- de b (nb - 1)
 if (nb - 1 == 1)=true then pure (.done (some (b.extract 0 (nb - 1)++a.extract 0 na++(out.push y).reverse),na,nb - 1,out.push y,mg,ac,bc))
 else do
  let x <- de a (na - 1)
  let __x <- iR true x b 0 (nb - 1) (nb - 1 - 1)
  match __x with
  |some k =>
   if nb - 1 - k > 0 then
    if (k == 1)=true then pure (.done (some (b.extract 0 k++a.extract 0 na++(out.push y++(b.extract k (nb - 1)).reverse).reverse),na,k,out.push y++(b.extract k (nb - 1)).reverse,mg,ac,nb - 1 - k))
    else if (k == 0)=true then pure (.done (some (a.extract 0 na++b.extract 0 k++(out.push y++(b.extract k (nb - 1)).reverse).reverse),na,k,out.push y++(b.extract k (nb - 1)).reverse,mg,ac,nb - 1 - k))
    else Pn a b (out.push y++(b.extract k (nb - 1)).reverse) na k mg ac (nb - 1 - k)
   else Pn a b (out.push y) na (nb - 1) mg ac (nb - 1 - k)
  |_=>pure (.done (some (a.extract 0 na++b.extract 0 (nb - 1)++(out.push y).reverse),na,nb - 1,out.push y,mg,ac,bc))
section
variable{prog:aS}{w:az}{A:ba}{E:aa->af->Prop}{s:af}{a₀:Array ax}{κ:e_}{rk:ax->Int}{a b:Array ax}
theorem Ir.aaH(m:Ir prog w A s κ rk a₀ a b){out:Array ax}{na nb:Nat}(h:Mh rk a b out na nb)(e:nb=1):Bu rk a b (b.extract 0 nb++a.extract 0 na++out.reverse):=by refine h.Wa m.sa m.sb fun y hy x hx=>?_;subst e;obtain⟨x',hx'⟩:=eH (xs:=a) (i:=0) m.la;obtain⟨y',hy'⟩:=eH (xs:=b) (i:=0) m.lb;have e1:=m.lt0;rw[jf hx',jf hy']at e1;have e2:=vo (n:=1) (by lia) m.sb hy' hy;have e3:=pJ (i:=0) m.sa hx' (by simpa using n6 hx);lia
theorem Ir.Ze(m:Ir prog w A s κ rk a₀ a b){out:Array ax}{na nb:Nat}(h:Mh rk a b out na nb)(e:na=0):Bu rk a b (a.extract 0 na++b.extract 0 nb++out.reverse):=by refine h.done m.sa m.sb fun x hx=>?_;subst e;simp at hx
noncomputable def HiQ(rk:ax->Int)(a b:Array ax)(κ:e_)(st:bq)(n:Nat):ForInStep HiS->bq->Prop:=fun r st'=>cQ st st'/\match r with
 | .done c=>(∃m,c.1=some m/\Bu rk a b m)∨(c.1=none/\Mh rk a b c.2.2.2.1 c.2.1 c.2.2.1/\0 < c.2.1/\1 < c.2.2.1/\n<=c.2.2.2.1.size)
 | .yield c=>c.1=none/\Mh rk a b c.2.2.2.1 c.2.1 c.2.2.1/\0 < c.2.1/\1 < c.2.2.1/\n < c.2.2.2.1.size
theorem CW(m:Ir prog w A s κ rk a₀ a b){out:Array ax}{na nb mg ac bc n:Nat}{st0 st:bq}(hS:cQ st0 st)(h:Mh rk a b out na nb)(h1:0 < na)(h2:1 < nb)(hn:n<=out.size)(hc:∀x y,a[na - 1]?=some x->y∈b.toList.take nb->rk y<=rk x) :
  wpS (ay prog w) A E s (Pn a b out na nb mg ac bc) (HiQ rk a b κ st0 n) st:=by
 unfold Pn;have ha:=h.ha;obtain⟨x,hx⟩:=eH (xs:=a) (i:=na - 1) (by lia);refine a_ (bW hx ?_);have h':=h.xG m.sa h1 hx (fun y hy=>hc x y hx hy);have sz:n < (out.push x).size:=by rw[gN];lia
 refine cj (fun e=>br ⟨hS,.inl ⟨_,rfl,m.Ze h' (lC e)⟩⟩) fun e=>?_;have e:=gG e;exact cj (fun _=>br ⟨hS,.inr ⟨rfl,h',by show 0 < na - 1;lia,h2,gm sz⟩⟩) fun _=>br ⟨hS,rfl,h',by show 0 < na - 1;lia,h2,sz⟩
theorem zF(m:Ir prog w A s κ rk a₀ a b){out:Array ax}{na nb mg ac bc n:Nat}{st0 st:bq}(hk:kindOf st=κ)(hS:cQ st0 st)(h:Mh rk a b out na nb)(h1:0 < na)(h2:1 < nb)(hn:n<=out.size)(hc:∀y x,b[nb - 1]?=some y->x∈a.toList.take na->rk x<=rk y) :
  wpS (ay prog w) A E s (Fp a b out na nb mg ac bc) (HiQ rk a b κ st0 n) st:=by
 unfold Fp;have ha:=h.ha;have hb:=h.hb;obtain⟨y,hy⟩:=eH (xs:=b) (i:=nb - 1) (by lia);refine a_ (bW hy ?_);have h':=h.CT m.sb (by lia) hy (fun x hx=>hc y x hy hx);have sz:n < (out.push y).size:=by rw[gN];lia
 refine cj (fun e=>br ⟨hS,.inl ⟨_,rfl,m.aaH h' (lC e)⟩⟩) fun e=>?_;have e:=gG e;obtain⟨x,hx⟩:=eH (xs:=a) (i:=na - 1) (by lia);refine a_ (bW hx ?_);refine a_ (jV m.h0 hk (m.ma x (nO hx)) m.mb (by lia) (by lia) (Io m.sb _ _ (by lia)) fun k k1 k2 k3=>?_);have chunk:∀z∈(b.toList.take (nb - 1)).drop k,∀v∈a.toList.take na,rk v<=rk z:=fun z hz v hv=>by
  obtain⟨j,j1,j2,ej⟩:=Fo hz;have:=k3 j j1 j2;unfold bp at this;rw[gS,jf ej]at this;have q:rk x<=rk z:=by simpa using this
  exact eL (vo h1 m.sa hx hv) q
 have rest:∀v,v∈b.toList.take k->rk v<=rk x:=fun v hv=>by
  obtain⟨j,hj,ej⟩:=Pk hv;have:=k2 j hj;unfold bp at this;rw[gS,jf ej]at this;have q:rk v < rk x:=by simpa using this
  exact gi q
 dsimp only;refine cj (fun kp=>?_) fun kp=>?_
 ·have h'':=h'.Fj m.sb (k:=k) (by lia) chunk;have sz':n<=(out.push y++(b.extract k (nb - 1)).reverse).size:=by rw[ly];lia
  refine cj (fun e2=>br ⟨hS,.inl ⟨_,rfl,m.aaH h'' (lC e2)⟩⟩) fun e2=>?_;have e2:=gG e2;refine cj (fun e3=>br ⟨hS,.inl ⟨_,rfl,h''.done m.sa m.sb fun x _ y hy=>?_⟩⟩) fun e3=>?_
  ·rw[lC e3]at hy;simp at hy
  ·have e3:=gG e3;exact CW m hS h'' h1 (by lia) sz' fun x' v hx' hv=>by rw[hx]at hx';cases hx';exact rest v hv
 ·obtain rfl:k=nb - 1:=by lia
  exact CW m hS h' h1 (by lia) (gm sz) fun x' v hx' hv=>by rw[hx]at hx';cases hx';exact rest v hv
theorem zG(m:Ir prog w A s κ rk a₀ a b){out:Array ax}{na nb n:Nat}{st0 st:bq}(hk:kindOf st=κ)(hS:cQ st0 st)(h:Mh rk a b out na nb)(h1:0 < na)(h2:1 < nb)(hn:n<=out.size)
  {f:Option Nat->StateT bq Sem (ForInStep HiS)}{mg bc:Nat}(hf:∀k,f (some k)=if na - k > 0 then
    if (k == 0)=true then pure (.done (some (a.extract 0 k++b.extract 0 nb++(out++(a.extract k na).reverse).reverse),k,nb,out++(a.extract k na).reverse,mg,na - k,bc))
    else Fp a b (out++(a.extract k na).reverse) k nb mg (na - k) bc
   else Fp a b out na nb mg (na - k) bc) :
  wpS (ay prog w) A E s (do let y <- de b (nb - 1);let r <- iR false y a 0 na (na - 1);f r) (HiQ rk a b κ st0 n) st:=by
 have ha:=h.ha;have hb:=h.hb;obtain⟨y,hy⟩:=eH (xs:=b) (i:=nb - 1) (by lia);refine a_ (bW hy ?_);refine a_ (jV m.h0 hk (m.mb y (nO hy)) m.ma (by lia) (by lia) (Io m.sa _ _ (by lia)) fun k k1 k2 k3=>?_);rw[hf];have chunk:∀z∈(a.toList.take na).drop k,∀v∈b.toList.take nb,rk v<=rk z:=fun z hz v hv=>by
  obtain⟨j,j1,j2,ej⟩:=Fo hz;have:=k3 j j1 j2;unfold bp at this;rw[gS,jf ej]at this;have q:rk y < rk z:=by simpa using this
  exact eL (vo (by lia) m.sb hy hv) (gi q)
 have rest:∀v,v∈a.toList.take k->rk v<=rk y:=fun v hv=>by obtain⟨j,hj,ej⟩:=Pk hv;have:=k2 j hj;unfold bp at this;rw[gS,jf ej]at this;simpa using this
 refine cj (fun kp=>?_) fun kp=>?_
 ·have h':=h.qP m.sa (k:=k) (by lia) chunk;have sz':n<=(out++(a.extract k na).reverse).size:=by rw[ly];lia
  refine cj (fun e=>br ⟨hS,.inl ⟨_,rfl,m.Ze h' (lC e)⟩⟩) fun e=>?_;have e:=gG e;exact zF m hk hS h' (by lia) h2 sz' fun y' x hy' hx=>by rw[hy]at hy';cases hy';exact rest x hx
 ·obtain rfl:k=na:=by lia
  exact zF m hk hS h h1 h2 hn fun y' x hy' hx=>by rw[hy]at hy';cases hy';exact rest x hx
theorem Iw(m:Ir prog w A s κ rk a₀ a b){st:bq}(hk:kindOf st=κ){Q:Array ax->bq->Prop}(h:∀mm st',cQ st st'->Bu rk a b mm->Q mm st') :
  wpS (ay prog w) A E s (zE a b) Q st:=by
 rw[Iv];dsimp only;have la:=m.la;have lb:=m.lb;refine a_ (lx (kv ⟨rfl,?_⟩));obtain⟨x0,hx0⟩:=eH (xs:=a) (i:=a.size - 1) (by lia);refine a_ (bW hx0 ?_);have M0:Mh rk a b #[x0] (a.size - 1) b.size:=Mh.nil.xG m.sa la hx0 fun v hv=>by have:=m.last v (n6 hv);rwa [jf hx0]at this
 refine cj (fun e=>br (h _ _ (.refl _) (m.Ze M0 (lC e)))) fun e1=>?_;have e1:=gG e1;refine cj (fun e=>br (h _ _ (.refl _) (m.aaH M0 (lC e)))) fun e2=>?_;have e2:=gG e2;refine a_ (gE ?_);refine a_ (eC (eQ (I:=fun x c st'=>cQ st st'/\∃na nb out mg,c=(none,na,nb,out,mg)/\Mh rk a b out na nb/\0 < na/\1 < nb/\x + 1<=out.size)
  (Q:=fun c st'=>cQ st st'/\∃mm rest,c=(some mm,rest)/\Bu rk a b mm) ?step ?fQ ⟨.refl _,_,_,#[x0],_,rfl,M0,by lia,by lia,by simp⟩) ?post)
 case post =>
  rintro c st' ⟨hS,mm,rest,rfl,hr⟩;exact br (h mm st' hS hr)
 case fQ =>
  rintro c st' ⟨hS,na,nb,out,mg,rfl,hM,h1,h2,h3⟩;have:=hM.sz;lia
 case step =>
  rintro x c st' _ hx ⟨hS,na,nb,out,mg,rfl,hM,h1,h2,h3⟩;dsimp only;refine a_ (eC (eQ (I:=fun y c st''=>cQ st st''/\∃na nb out ac bc,c=(none,na,nb,out,ac,bc)/\Mh rk a b out na nb/\0 < na/\1 < nb/\x + 1 + y<=out.size)
   (Q:=fun c st''=>cQ st st''/\((∃mm rest,c=(some mm,rest)/\Bu rk a b mm)∨∃na nb out ac bc,c=(none,na,nb,out,ac,bc)/\Mh rk a b out na nb/\0 < na/\1 < nb/\x + 2<=out.size)) ?istep ?ifin ⟨hS,na,nb,out,0,0,rfl,hM,h1,h2,by lia⟩) ?ipost)
  case ifin =>
   rintro c st'' ⟨hS,na,nb,out,ac,bc,rfl,hM,h1,h2,h3⟩;have:=hM.sz;lia
  case istep =>
   rintro y c st'' _ hy ⟨hS,na,nb,out,ac,bc,rfl,hM,h1,h2,h3⟩;dsimp only;have ha:=hM.ha;have hb:=hM.hb;obtain⟨p,hp⟩:=eH (xs:=b) (i:=nb - 1) (by lia);obtain⟨q,hq⟩:=eH (xs:=a) (i:=na - 1) (by lia);refine a_ (bW hp (a_ (bW hq (a_ (zu m.h0 (hS.2.1.trans hk) (m.mb p (nO hp)) (m.ma q (nO hq)) ?_)))));by_cases c:rk p < rk q
   ·simp only[c,decide_true,if_true];refine a_ (bW hq ?_);have hM':=hM.xG m.sa h1 hq fun v hv=>eL (vo (by lia) m.sb hp hv) (gi c);refine cj (fun e=>br ⟨hS,.inl ⟨_,_,rfl,m.Ze hM' (lC e)⟩⟩) fun e=>?_;have e:=gG e;exact cj (fun _=>br ⟨hS,.inr ⟨_,_,_,_,_,rfl,hM',by lia,h2,by rw[gN];lia⟩⟩) fun _=>br ⟨hS,_,_,_,_,_,rfl,hM',by lia,h2,by rw[gN];lia⟩
   ·simp only[c,decide_false,bz,if_false];refine a_ (bW hp ?_);have hM':=hM.CT m.sb (by lia) hp fun v hv=>eL (vo h1 m.sa hq hv) (oB.mp c);refine cj (fun e=>br ⟨hS,.inl ⟨_,_,rfl,m.aaH hM' (lC e)⟩⟩) fun e=>?_;have e:=gG e;exact cj (fun _=>br ⟨hS,.inr ⟨_,_,_,_,_,rfl,hM',h1,by lia,by rw[gN];lia⟩⟩) fun _=>br ⟨hS,_,_,_,_,_,rfl,hM',h1,by lia,by rw[gN];lia⟩
  case ipost =>
   rintro c st'' ⟨hS,⟨mm,rest,rfl,hr⟩|⟨na,nb,out,ac,bc,rfl,hM,h1,h2,h3⟩⟩
   ·exact br ⟨hS,mm,_,rfl,hr⟩
   ·dsimp only;refine a_ (lx (kv ⟨rfl,?_⟩));refine a_ (eC (eQ (I:=fun y c st3=>cQ st st3/\∃na nb out mg ac bc,c=(none,na,nb,out,mg,ac,bc)/\Mh rk a b out na nb/\0 < na/\1 < nb/\x + 2 + y<=out.size)
     (Q:=fun c st3=>cQ st st3/\((∃mm rest,c=(some mm,rest)/\Bu rk a b mm)∨∃na nb out mg ac bc,c=(none,na,nb,out,mg,ac,bc)/\Mh rk a b out na nb/\0 < na/\1 < nb/\x + 2<=out.size)) ?Wb ?aeo ⟨hS,na,nb,out,_,ac,bc,rfl,hM,h1,h2,by lia⟩) ?Wc)
    case aeo =>
     rintro c st3 ⟨hS,na,nb,out,mg,ac,bc,rfl,hM,h1,h2,h3⟩;have:=hM.sz;lia
    case Wc =>
     rintro c st3 ⟨hS,⟨mm,rest,rfl,hr⟩|⟨na,nb,out,mg,ac,bc,rfl,hM,h1,h2,h3⟩⟩
     ·exact br ⟨hS,mm,_,rfl,hr⟩
     ·dsimp only;refine a_ (oJ fun CG Bt=>?_);exact br ⟨hS.trans Bt,_,_,_,_,rfl,hM,h1,h2,by lia⟩
    case Wb =>
     rintro y c st3 _ hy ⟨hS,na,nb,out,mg,ac,bc,rfl,hM,h1,h2,h3⟩;have cD:∀(c:HiS) (st':bq),HiQ rk a b κ st (x + 2 + y) (.done c) st'->cQ st st'/\((∃mm rest,c=(some mm,rest)/\Bu rk a b mm)∨∃na nb out mg ac bc,c=(none,na,nb,out,mg,ac,bc)/\Mh rk a b out na nb/\0 < na/\1 < nb/\x + 2<=out.size):=by
      rintro⟨c1,na,nb,out,mg,ac,bc⟩ st' ⟨hS,⟨mm,e,hr⟩|⟨e,hM,h1,h2,h3⟩⟩
      ·cases e;exact⟨hS,.inl ⟨mm,_,rfl,hr⟩⟩
      ·cases e;dsimp only at h1 h2 h3;exact⟨hS,.inr ⟨_,_,_,_,_,_,rfl,hM,h1,h2,by lia⟩⟩
     have cY:∀(c:HiS) (st':bq),HiQ rk a b κ st (x + 2 + y) (.yield c) st'->cQ st st'/\∃na nb out mg ac bc,c=(none,na,nb,out,mg,ac,bc)/\Mh rk a b out na nb/\0 < na/\1 < nb/\x + 2 + (y + 1)<=out.size:=by rintro⟨c1,na,nb,out,mg,ac,bc⟩ st' ⟨hS,e,hM,h1,h2,h3⟩;cases e;dsimp only at h1 h2 h3;exact⟨hS,_,_,_,_,_,_,rfl,hM,h1,h2,by lia⟩
     dsimp only;refine cj (fun _=>?_) (fun _=>?_)
     ·refine a_ (oJ fun CG Bt=>?_);exact eC (zG m ((hS.trans Bt).2.1.trans hk) (hS.trans Bt) hM h1 h2 h3 (fun k=>rfl)) fun r st' hq=>match r,hq with|.done c,hq=>cD c st' hq|.yield c,hq=>cY c st' hq
     ·refine a_ (oJ fun CG Bt=>?_);exact eC (zG m ((hS.trans Bt).2.1.trans hk) (hS.trans Bt) hM h1 h2 h3 (fun k=>rfl)) fun r st' hq=>match r,hq with|.done c,hq=>cD c st' hq|.yield c,hq=>cY c st' hq
end
theorem Iz(i:Nat):mergeAt' i=(do
 let s <- get
 let (some (sa,na,power),some (sb,nb,_)):=((cb s)[i]?,(cb s)[i + 1]?)|unsupported "internal:list.sort.pending"
 set (mT s (((cb s).setIfInBounds i (sa,na + nb,power)).eraseIdxIfInBounds (i + 1)))
 let some k <- iR false (<- de (aI s) sb) (aI s) sa na 0|return false
 let (sa,na):=(sa + k,na - k)
 if na == 0 then return true
 let some nb <- iR true (<- de (aI s) (sa + na - 1)) (aI s) sb nb (nb - 1)|return false
 if nb == 0 then return true
 let x:=(aI s).extract sa sb
 let y:=(aI s).extract sb (sb + nb)
 let merged <- if na<=nb then zy x y else zE x y
 modify fun s=>setArr s (merged.toList.zipIdx.foldl (fun a (p,j)=>a.setIfInBounds (sa + j) p) (aI s))
 return (fg (<- get)).isNone):=rfl
section
variable{prog:aS}{w:az}{A:ba}{E:aa->af->Prop}{s:af}{a₀:Array ax}{κ:e_}{rk:ax->Int}
theorem IK{base:Nat}:∀(M:List ax) (n:Nat) (Pre Z T:List ax) (arr:Array ax),arr.toList=Pre++(Z++T)->base + n=Pre.length->M.length=Z.length ->
  ((M.zipIdx n).foldl (fun a (p:ax×Nat)=>a.setIfInBounds (base + p.2) p.1) arr).toList=Pre++(M++T)
 | [],n,Pre,Z,T,arr,h,_,hl=>by obtain rfl:Z=[]:=mM.mp hl.symm;simpa using h
 |m::M,n,Pre,Z,T,arr,h,hb,hl=>by
  cases Z with
  |nil=>cases hl
  |cons z Z =>
   have e:(arr.setIfInBounds (base + n) m).toList=(Pre++[m])++(Z++T):=by rw[Array.toList_setIfInBounds,h,hb];simp[List.set_append]
   have:=IK (base:=base) M (n + 1) (Pre++[m]) Z T _ e (by simp;lia) (by simpa using hl);rw[List.zipIdx_cons,kR,this];simp
theorem Fq{xs:Array ax}{P L S:List ax}(h:xs.toList=P++(L++S)){i:Nat}(hi:i < L.length):R rk xs (P.length + i)=rk L[i]:=by refine jf ?_;rw[<- jb,h,gr (by lia),eT (by lia)];rw[show P.length + i - P.length=i by lia,d9 hi]
theorem Li{xs:Array ax}{P L S:List ax}(h:xs.toList=P++(L++S)):Up rk xs P.length L.length↔jW rk L:=by
 constructor
 ·intro u;refine k_.mpr ?_;intro i j hi hj hij;have:=u i j (by lia) hj;rwa [Fq h hi,Fq h hj]at this
 ·intro u i j hij hj;rw[Fq h (by lia),Fq h hj];by_cases e:i=j
  ·subst e;exact gL _
  ·exact k_.mp u i j (by lia) hj (by lia)
theorem IV{st:bq}{i sa na nb pw pw2:Nat}{Q:Bool->bq->Prop}(h0:Ax prog w A s κ rk a₀)(hp:(aI st).Perm a₀)(hk:kindOf st=κ)(hf:fg st=none)
  (hi:(cb st)[i]?=some (sa,na,pw)) (hj:(cb st)[i + 1]?=some (sa + na,nb,pw2)) (na1:1<=na) (nb1:1<=nb) (hz:sa + na + nb<=a₀.size) (ua:Up rk (aI st) sa na) (ub:Up rk (aI st) (sa + na) nb)
  (h:∀st',(aI st').Perm a₀->kindOf st'=κ->fg st'=none->cb st'=((cb st).setIfInBounds i (sa,na + nb,pw)).eraseIdxIfInBounds (i + 1)->(∀q,q < sa∨sa + na + nb<=q->(aI st')[q]?=(aI st)[q]?)->Up rk (aI st') sa (na + nb)->Q true st') :
  wpS (ay prog w) A E s (mergeAt' i) Q st:=by
 rw[Iz];refine a_ (gE ?_);dsimp only;rw[hi,hj];dsimp only;have aiV:∀(st1:bq) (Q':PUnit->bq->Prop),Q' ⟨⟩ st1->wpS (ay prog w) A E s (set st1:StateT bq Sem PUnit) Q' st:=fun st1 Q' hq=>by unfold wpS;rw[StateT.run_set];exact aT ⟨rfl,hq⟩
 refine a_ (aiV _ _ ?_);have sz:(aI st).size=a₀.size:=hp.size_eq;have mem:∀x∈(aI st).toList,x∈a₀.toList:=fun x hx=>(qV.mp hp).mem_iff.mp hx;generalize aaI:mT st (((cb st).setIfInBounds i (sa,na + nb,pw)).eraseIdxIfInBounds (i + 1))=st1;have k1:kindOf st1=κ:=by rw[<- aaI];exact hk
 have f1:fg st1=none:=by rw[<- aaI];exact hf
 have a1:aI st1=aI st:=by rw[<- aaI]
 have p1:cb st1=((cb st).setIfInBounds i (sa,na + nb,pw)).eraseIdxIfInBounds (i + 1):=by rw[<- aaI]
 obtain⟨y,hy⟩:=eH (xs:=aI st) (i:=sa + na) (by lia);obtain⟨z,hz'⟩:=eH (xs:=aI st) (i:=sa + na - 1) (by lia);generalize aI st=xs at *;refine a_ (bW hy ?_);refine a_ (jV h0 k1 (mem y (nO hy)) mem (by lia) (by lia) ua fun k kn kl kr=>?_);have kl':∀q,q < k->R rk xs (sa + q)<=rk y:=fun q hq=>by have:=kl q hq;unfold bp at this;simpa using this
 have kr':∀q,k<=q->q < na->rk y < R rk xs (sa + q):=fun q h1 h2=>by have:=kr q h1 h2;unfold bp at this;simpa using this
 have ub0:∀q,q < nb->rk y<=R rk xs (sa + na + q):=fun q hq=>by have:=ub 0 q (by lia) hq;rwa [k9,jf hy]at this
 have whole:(∀q,q < na->∀q',q' < nb->R rk xs (sa + q)<=R rk xs (sa + na + q'))->Up rk xs sa (na + nb):=fun hq i j hij hj=>by
  by_cases c:j < na
  ·exact ua i j hij c
  ·by_cases d:i < na
   ·have:=hq i d (j - na) (by lia);rwa [show sa + na + (j - na)=sa + j by lia]at this
   ·have:=ub (i - na) (j - na) (by lia) (by lia);rwa [show sa + na + (j - na)=sa + j by lia,show sa + na + (i - na)=sa + i by lia]at this
 dsimp only;refine cj (fun e=>br ?_) fun e=>?_
 ·have e:=lC e;refine h st1 (by rw[a1];exact hp) k1 f1 p1 (fun _ _=>by rw[a1]) ?_;rw[a1];exact whole fun q hq q' hq'=>eL (kl' q (by lia)) (ub0 q' hq')
 have e:=gG e;rw[show sa + k + (na - k) - 1=sa + na - 1 by lia];refine a_ (bW hz' ?_);refine a_ (jV h0 k1 (mem z (nO hz')) mem (by lia) (by lia) ub fun n nn nl nr=>?_);have nl':∀q,q < n->R rk xs (sa + na + q) < rk z:=fun q hq=>by have:=nl q hq;unfold bp at this;simpa using this
 have nr':∀q,n<=q->q < nb->rk z<=R rk xs (sa + na + q):=fun q h1 h2=>by have:=nr q h1 h2;unfold bp at this;simpa using this
 have uaz:∀q,q < na->R rk xs (sa + q)<=rk z:=fun q hq=>by have:=ua q (na - 1) (by lia) (by lia);rwa [show sa + (na - 1)=sa + na - 1 by lia,jf hz']at this
 refine cj (fun e2=>br ?_) fun e2=>?_
 ·have e2:=lC e2;refine h st1 (by rw[a1];exact hp) k1 f1 p1 (fun _ _=>by rw[a1]) ?_;rw[a1];exact whole fun q hq q' hq'=>eL (uaz q hq) (nr' q' (by lia) hq')
 have e2:=gG e2;have hxl:xs.toList.length=a₀.size:=by rw[jS];exact sz
 obtain⟨P,hP⟩:∃P,P=xs.toList.take sa:=⟨_,rfl⟩
 obtain⟨A1,hA1⟩:∃P,P=(xs.toList.drop sa).take k:=⟨_,rfl⟩
 obtain⟨X,hX⟩:∃P,P=(xs.toList.drop (sa + k)).take (na - k):=⟨_,rfl⟩
 obtain⟨Y,hY⟩:∃P,P=(xs.toList.drop (sa + na)).take n:=⟨_,rfl⟩
 obtain⟨B2,hB2⟩:∃P,P=(xs.toList.drop (sa + na + n)).take (nb - n):=⟨_,rfl⟩
 obtain⟨S,hS⟩:∃P,P=xs.toList.drop (sa + na + nb):=⟨_,rfl⟩
 have lP:P.length=sa:=by rw[hP,i5];lia
 have lA:A1.length=k:=by rw[hA1,i5,l6];lia
 have lX:X.length=na - k:=by rw[hX,i5,l6];lia
 have lY:Y.length=n:=by rw[hY,i5,l6];lia
 have lB:B2.length=nb - n:=by rw[hB2,i5,l6];lia
 have hl:xs.toList=P++(A1++(X++(Y++(B2++S)))):=by rw[hP,hA1,hX,hY,hB2,hS];have s5:=mH xs.toList (sa + na + n) (nb - n);rw[show sa + na + n + (nb - n)=sa + na + nb by lia]at s5;rw[<- s5,<- mH xs.toList (sa + na) n];have s3:=mH xs.toList (sa + k) (na - k);rw[show sa + k + (na - k)=sa + na by lia]at s3;rw[<- s3,<- mH xs.toList sa k,my]
 have eX:(xs.extract (sa + k) (sa + na)).toList=X:=by rw[pI,hX];congr 1;lia
 have eY:(xs.extract (sa + na) (sa + na + n)).toList=Y:=by rw[pI,hY];congr 1;lia
 have aA:jW rk (A1++X):=by
  have:xs.toList=P++((A1++X)++(Y++(B2++S))):=by rw[hl];simp
  refine(Li this).mp ?_;rw[lP,dn,lA,lX,show k + (na - k)=na by lia];exact ua
 have aB:jW rk (Y++B2):=by
  have:xs.toList=(P++(A1++X))++((Y++B2)++S):=by rw[hl];simp
  have u:=Li (rk:=rk) this;rw[dn,dn,lP,lA,lX,dn,lY,lB,show sa + (k + (na - k))=sa + na by lia,show n + (nb - n)=nb by lia]at u;exact u.mp ub
 obtain⟨sA,sX,sAX⟩:=gy.mp aA;obtain⟨sY,sB,sYB⟩:=gy.mp aB;have agS:∀v∈A1,rk v<=rk y:=fun v hv=>by rw[hA1]at hv;obtain⟨j,hj,ej⟩:=lZ hv;have:=kl' j hj;rwa [jf ej]at this
 have aiX:∀v∈X,rk v<=rk z:=fun v hv=>by rw[hX]at hv;obtain⟨j,hj,ej⟩:=lZ hv;have:=uaz (k + j) (by lia);rwa [<- oD,jf ej]at this
 have aaJ:∀v∈Y,rk y<=rk v/\rk v < rk z:=fun v hv=>by rw[hY]at hv;obtain⟨j,hj,ej⟩:=lZ hv;have q1:=ub0 j (by lia);have q2:=nl' j hj;rw[jf ej]at q1 q2;exact⟨q1,q2⟩
 have aep:∀v∈B2,rk z<=rk v:=fun v hv=>by rw[hB2]at hv;obtain⟨j,hj,ej⟩:=lZ hv;have:=nr' (n + j) (by lia) (by lia);rwa [<- oD,jf ej]at this
 have gX:∀q,q < na - k->(xs.extract (sa + k) (sa + na))[q]?=xs[sa + k + q]?:=fun q hq=>by rw[Array.getElem?_extract,if_pos (by lia)]
 have gY:∀q,q < n->(xs.extract (sa + na) (sa + na + n))[q]?=xs[sa + na + q]?:=fun q hq=>by rw[Array.getElem?_extract,if_pos (by lia)]
 have szX:(xs.extract (sa + k) (sa + na)).size=na - k:=by rw[q0];lia
 have szY:(xs.extract (sa + na) (sa + na + n)).size=n:=by rw[q0];lia
 have m:Ir prog w A s κ rk a₀ (xs.extract (sa + k) (sa + na)) (xs.extract (sa + na) (sa + na + n)):=by
  refine⟨h0,by rw[eX];exact sX,by rw[eY];exact sY,fun v hv=>mem v ?_,fun v hv=>mem v ?_,by lia,by lia,?_,fun v hv=>?_⟩
  ·rw[eX]at hv;rw[hl];simp[hv]
  ·rw[eY]at hv;rw[hl];simp[hv]
  ·rw[kE (gX 0 (by lia)),kE (gY 0 (by lia)),k9,k9,jf hy];exact kr' k (bE _) (by lia)
  ·rw[szX,kE (gX (na - k - 1) (by lia)),show sa + k + (na - k - 1)=sa + na - 1 by lia,jf hz'];rw[eY]at hv;exact gi (aaJ v hv).2
 have fQ:∀(mm:Array ax) (st2:bq),cQ st1 st2->Bu rk (xs.extract (sa + k) (sa + na)) (xs.extract (sa + na) (sa + na + n)) mm->wpS (ay prog w) A E s (do
   modify fun s=>setArr s (mm.toList.zipIdx.foldl (fun a (p,j)=>a.setIfInBounds (sa + k + j) p) (aI s))
   let s <- get
   pure (fg s).isNone) Q st2:=fun mm st2 hS2 ⟨hr,hu⟩=>by
  rw[eX,eY]at hr;have lm:mm.toList.length=(X++Y).length:=hr.length_eq;have put:=IK (base:=sa + k) mm.toList 0 (P++A1) (X++Y) (B2++S) xs (by rw[hl];simp) (by rw[dn,lP,lA];lia) lm;refine a_ (iN (a_ (gE ?_)));have e3:aI st2=xs:=hS2.1.trans a1;have key:∀ys:Array ax,ys.toList=P++(A1++(mm.toList++(B2++S)))->∀st',aI st'=ys->kindOf st'=κ->fg st'=none->cb st'=cb st1->Q true st':=by
   intro ys hys st' e4 e5 e6 e7;refine h st' ?_ e5 e6 (e7.trans p1) ?_ ?_
   ·rw[e4];refine Array.Perm.trans (qV.mpr ?_) hp;rw[hys,hl];refine om _ (om _ ?_);rw[<- eP X Y];exact vE _ hr
   ·intro q hq;rw[e4,<- jb,<- jb,hys,hl];rw[dn,lX,lY]at lm;rcases hq with hq|hq
    ·rw[eT (by lia),eT (by lia)]
    ·have e8:P++(A1++(mm.toList++(B2++S)))=(P++(A1++(mm.toList++B2)))++S:=by simp
     have e9:P++(A1++(X++(Y++(B2++S))))=(P++(A1++(X++(Y++B2))))++S:=by simp
     have l1:(P++(A1++(mm.toList++B2))).length=sa + na + nb:=by simp only[dn];lia
     have l2:(P++(A1++(X++(Y++B2)))).length=sa + na + nb:=by simp only[dn];lia
     rw[e8,e9,gr (by lia),gr (by lia),l1,l2]
   ·rw[e4];have e8:ys.toList=P++((A1++(mm.toList++B2))++S):=by rw[hys];simp
    have u:=Li (rk:=rk) e8;have l1:(A1++(mm.toList++B2)).length=na + nb:=by simp only[dn]at lm ⊢;lia
    rw[lP,l1]at u;refine u.mpr (gy.mpr ⟨sA,gy.mpr ⟨hu,sB,fun v hv t ht=>?_⟩,fun v hv t ht=>?_⟩)
    ·rcases dt.mp (hr.mem_iff.mp hv) with hv|hv
     ·exact eL (aiX v hv) (aep t ht)
     ·exact eL (gi (aaJ v hv).2) (aep t ht)
    ·rcases dt.mp ht with ht|ht
     ·rcases dt.mp (hr.mem_iff.mp ht) with ht|ht
      ·exact sAX v hv t ht
      ·exact eL (agS v hv) (aaJ t ht).1
     ·have q1:=agS v hv;have q2:=(aaJ y (by
       have:=dm.mp (show Y[0]?=some y by rw[hY,l4 (by lia),oC,k9];simpa using hy);obtain⟨q,rfl⟩:=this;exact eW q)).2
      have q3:=aep t ht;lia
  rw[<- e3]at put;have:=key _ (by rw[put];simp) (setArr st2 (mm.toList.zipIdx.foldl (fun a (p,j)=>a.setIfInBounds (sa + k + j) p) (aI st2))) rfl (hS2.2.1.trans k1) (hS2.2.2.2.trans f1) hS2.2.2.1;have e10:(fg (setArr st2 (mm.toList.zipIdx.foldl (fun a (p,j)=>a.setIfInBounds (sa + k + j) p) (aI st2)))).isNone=true:=by show(fg st2).isNone=true;rw[hS2.2.2.2.trans f1];rfl
  rw[e10];exact br this
 exact cj (fun _=>a_ (Iu m k1 fQ)) fun _=>a_ (Iw m k1 fQ)
end
noncomputable def Rn(rk:ax->Int)(xs:Array ax):Nat->List (Nat×Nat×Nat)->Nat->Prop
 |a,[],e=>a=e
 |a,t::l,e=>t.1=a/\1<=t.2.1/\Up rk xs a t.2.1/\Rn rk xs (a + t.2.1) l e
section
variable{rk:ax->Int}{xs ys:Array ax}
theorem Rn.le:∀{l:List (Nat×Nat×Nat)}{a e:Nat},Rn rk xs a l e->a + l.length<=e
 | [],a,e,h=>by simp only[Rn]at h;simp;lia
 |t::l,a,e,h=>by obtain⟨h1,h2,h3,h4⟩:=h;have:=Rn.le h4;simp only[ck];lia
theorem Rn.app:∀{l l':List (Nat×Nat×Nat)}{a e:Nat},Rn rk xs a (l++l') e↔∃m,Rn rk xs a l m/\Rn rk xs m l' e
 | [],l',a,e=>by
  constructor
  ·intro h;exact⟨a,rfl,h⟩
  ·rintro⟨m,rfl,h⟩;exact h
 |t::l,l',a,e=>by
  constructor
  ·rintro⟨h1,h2,h3,h4⟩;obtain⟨m,g1,g2⟩:=Rn.app.mp h4;exact⟨m,⟨h1,h2,h3,g1⟩,g2⟩
  ·rintro⟨m,⟨h1,h2,h3,h4⟩,g⟩;exact⟨h1,h2,h3,Rn.app.mpr ⟨m,h4,g⟩⟩
theorem Up.congr{a n:Nat}(h:Up rk xs a n)(hc:∀q,a<=q->q < a + n->ys[q]?=xs[q]?):Up rk ys a n:=fun i j hij hj=>by rw[kE (hc (a + i) (by lia) (by lia)),kE (hc (a + j) (by lia) (by lia))];exact h i j hij hj
theorem Rn.congr:∀{l:List (Nat×Nat×Nat)}{a e:Nat},Rn rk xs a l e->(∀q,a<=q->q < e->ys[q]?=xs[q]?)->Rn rk ys a l e
 | [],a,e,h,_=>h
 |t::l,a,e,⟨h1,h2,h3,h4⟩,hc=>by have:=h4.le;exact⟨h1,h2,h3.congr fun q q1 q2=>hc q q1 (by lia),h4.congr fun q q1 q2=>hc q (by lia) q2⟩
theorem Rn.pow:∀{l l':List (Nat×Nat×Nat)}{a e:Nat},Rn rk xs a l e->l'.map (fun t=>(t.1,t.2.1))=l.map (fun t=>(t.1,t.2.1))->Rn rk xs a l' e
 | [],l',a,e,h,hm=>by
  obtain rfl:l'=[]:=by simpa using hm
  exact h
 |t::l,[],a,e,h,hm=>by cases hm
 |t::l,t'::l',a,e,⟨h1,h2,h3,h4⟩,hm=>by simp only[bX,List.cons.injEq,t9]at hm;obtain⟨⟨m1,m2⟩,m3⟩:=hm;exact⟨m1.trans h1,by rw[m2];exact h2,by rw[m2];exact h3,by rw[m2];exact h4.pow m3⟩
theorem zH(f:Nat×Nat×Nat->Nat×Nat×Nat)(hf:∀t,((f t).1,(f t).2.1)=(t.1,t.2.1)):∀(l:List (Nat×Nat×Nat)) (i:Nat),(l.modify i f).map (fun t=>(t.1,t.2.1))=l.map (fun t=>(t.1,t.2.1))
 | [],i=>by simp
 |t::l,0=>by simp only[List.modify_zero_cons,bX,hf]
 |t::l,i + 1=>by simp only[List.modify_succ_cons,bX,zH f hf l i]
theorem aer{α:Type}(l:List α)(i:Nat)(h:i + 1 < l.length):l=l.take i++(l[i]::l[i + 1]::l.drop (i + 2)):=by
 conv=>lhs;rw[<- my i l,i_ (by lia),i_ (by lia)]
theorem aiY{α:Type}(P:List α)(t u v:α)(S:List α)(i:Nat)(hP:P.length=i):((P++(t::u::S)).set i v).eraseIdx (i + 1)=P++(v::S):=by
 subst hP
 induction P with
 |nil=>rfl
 |cons p P ih =>
  simp only[oI,ck,rh,qk,ih]
end
section
variable{prog:aS}{w:az}{A:ba}{E:aa->af->Prop}{s:af}{a₀:Array ax}{κ:e_}{rk:ax->Int}
structure Sr (κ:e_)(rk:ax->Int)(a₀:Array ax)(lo:Nat)(st:bq):Prop where
 perm:(aI st).Perm a₀
 kind:kindOf st=κ
 failed:fg st=none
 runs:Rn rk (aI st) 0 (cb st).toList lo
theorem ur{st:bq}{i e:Nat}{Q:Bool->bq->Prop}(h0:Ax prog w A s κ rk a₀)(h:Sr κ rk a₀ e st)(he:e<=a₀.size)(hi:i + 1 < (cb st).size)
  (hq:∀st',Sr κ rk a₀ e st'->(cb st').size + 1=(cb st).size->(∀q,e<=q->(aI st')[q]?=(aI st)[q]?)->Q true st'):wpS (ay prog w) A E s (mergeAt' i) Q st:=by
 have hr:=h.runs;have sp:=aer (cb st).toList i (by simpa using hi);generalize hpre:(cb st).toList.take i=pre at sp;generalize (cb st).toList.drop (i + 2)=post at sp;have lp:pre.length=i:=by rw[<- hpre,i5];simp;lia
 rw[sp]at hr;obtain⟨m,r1,h1,h2,h3,h4,h5,h6,h7⟩:=Rn.app.mp hr;simp only[Array.getElem_toList]at h1 h2 h3 h4 h5 h6 h7 sp;have e1:(cb st)[i]?=some (m,(cb st)[i].2.1,(cb st)[i].2.2):=by rw[getElem?_pos _ i (by lia)];exact congrArg some (Prod.ext h1 rfl)
 have e2:(cb st)[i + 1]?=some (m + (cb st)[i].2.1,(cb st)[i + 1].2.1,(cb st)[i + 1].2.2):=by rw[getElem?_pos _ (i + 1) (by lia)];exact congrArg some (Prod.ext h4 rfl)
 have l7:=h7.le;refine IV h0 h.perm h.kind h.failed e1 e2 h2 h5 (by lia) h3 h6 fun st' p1 p2 p3 p4 p5 p6=>?_;have e3:(cb st').toList=pre++((m,(cb st)[i].2.1 + (cb st)[i + 1].2.1,(cb st)[i].2.2)::post):=by rw[p4,Array.toList_eraseIdxIfInBounds,Array.toList_setIfInBounds,sp];exact aiY _ _ _ _ _ _ lp
 refine hq st' ⟨p1,p2,p3,?_⟩ ?_ fun q hq=>p5 q (.inr (by lia))
 ·rw[e3];have l1:=r1.le;refine Rn.app.mpr ⟨m,r1.congr fun q _ q2=>p5 q (.inl q2),rfl,by show 1<=_ + _;lia,p6,?_⟩;show Rn rk (aI st') (m + (_ + _)) post e;rw[<- oD];exact h7.congr fun q q1 _=>p5 q (.inr q1)
 ·have q1:=congrArg ip e3;have q2:=congrArg ip sp;simp only[jS,dn,ck]at q1 q2;lia
theorem Sr.push{st:bq}{lo n:Nat}(h:Sr κ rk a₀ lo st)(hn:1<=n)(hu:Up rk (aI st) lo n):Sr κ rk a₀ (lo + n) (mT st ((cb st).push (lo,n,0))):=by refine⟨h.perm,h.kind,h.failed,?_⟩;show Rn rk (aI st) 0 ((cb st).push (lo,n,0)).toList (lo + n);rw[p7];exact Rn.app.mpr ⟨lo,h.runs,rfl,hn,hu,rfl⟩
theorem Sr.acd{st:bq}{lo:Nat}(h:Sr κ rk a₀ lo st)(f:Nat×Nat×Nat->Nat×Nat×Nat)(hf:∀t,((f t).1,(f t).2.1)=(t.1,t.2.1)){i:Nat}:Sr κ rk a₀ lo (mT st ((cb st).modify i f)):=by refine⟨h.perm,h.kind,h.failed,h.runs.pow ?_⟩;show((cb st).modify _ _).toList.map _=_;rw[Array.toList_modify];exact zH f hf _ _
theorem zJ:∀(f n r:Nat),1<=n + r->1<=oP f n r
 | 0,n,r,h=>h
 |f + 1,n,r,h=>by
  rw[minRun'_succ];split
  ·exact h
  ·exact zJ f (n / 2) (max r (n % 2)) (by lia)
theorem Ft{st:bq}{Q:Unit->bq->Prop}(h0:Ax prog w A s κ rk a₀)(hp:aI st=a₀)(hk:kindOf st=κ)(hf:fg st=none)(hpd:cb st=#[])(h2:2<=a₀.size)
  (hq:∀st',(aI st').Perm a₀->fg st'=none->Up rk (aI st') 0 a₀.size->Q () st'):wpS (ay prog w) A E s sortRuns' Q st:=by
 rw[sortRuns'_eq];refine a_ (gE ?_);dsimp only;rw[hp];have mr:1<=oP a₀.size a₀.size 0:=zJ _ _ _ (by lia);refine a_ (eC (eQ (I:=fun x c st'=>∃lo,c=(none,lo)/\x<=lo/\lo<=a₀.size/\Sr κ rk a₀ lo st')
  (Q:=fun c st'=>c=(none,a₀.size)/\Sr κ rk a₀ a₀.size st') ?step ?fQ ⟨0,rfl,bE _,by lia,by rw[hp],hk,hf,by rw[hpd];rfl⟩) ?post)
 case fQ =>
  rintro c st' ⟨lo,rfl,h1,h2,hS⟩;obtain rfl:lo=a₀.size:=by lia
  exact⟨rfl,hS⟩
 case post =>
  rintro c st' ⟨rfl,hS⟩;dsimp only;refine a_ (eC (eQ (I:=fun x c st''=>c=(none,())/\Sr κ rk a₀ a₀.size st''/\((cb st'').size<=1∨(cb st'').size + x<=a₀.size))
   (Q:=fun c st''=>c=(none,())/\Sr κ rk a₀ a₀.size st''/\(cb st'').size<=1) ?s2 ?f2 ⟨rfl,hS,.inr (by have:=hS.runs.le;simpa using this)⟩) ?p2)
  case f2 =>
   rintro c st'' ⟨rfl,hS,hl⟩;exact⟨rfl,hS,by lia⟩
  case s2 =>
   rintro x c st'' _ hx ⟨rfl,hS,hl⟩;refine a_ (gE ?_);refine cj (fun e=>br ⟨rfl,hS,e⟩) fun e=>?_;have ite_le:∀(c:Prop) [Decidable c],(if c then (cb st'').size - 2 - 1 else (cb st'').size - 2) + 1 < (cb st'').size:=fun c _=>by split <;> lia
   refine a_ (ur h0 hS (bE _) ?_ fun st2 hS2 hz _=>?_)
   ·exact ite_le _
   ·simp only[eB,bz,if_false];exact br ⟨rfl,hS2,by lia⟩
  case p2 =>
   rintro c st'' ⟨rfl,hS,hl⟩;dsimp only;refine br (hq st'' hS.perm hS.failed ?_);have hr:=hS.runs;cases e:(cb st'').toList with
   |nil=>rw[e]at hr;simp only[Rn]at hr;lia
   |cons t l =>
    have:l=[]:=by have:=congrArg ip e;simp only[jS,ck]at this;exact mM.mp (by lia)
    subst this;rw[e]at hr;obtain⟨_,_,r3,r4⟩:=hr;simp only[Rn]at r4;rw[show t.2.1=a₀.size by lia]at r3;exact r3
 case step =>
  rintro x c st' _ hx ⟨lo,rfl,h1,h3,hS⟩;dsimp only;refine cj (fun e=>?_) fun e=>?_
  ·obtain rfl:lo=a₀.size:=by lia
   exact br ⟨rfl,hS⟩
  ·have hB:SB κ a₀ (aI st') (cb st') lo st':=⟨hS.perm,hS.kind,hS.failed,rfl,fun _ _=>rfl⟩
   have back:∀st2,SB κ a₀ (aI st') (cb st') lo st2->Sr κ rk a₀ lo st2:=fun st2 hB2=>⟨hB2.perm,hB2.kind,hB2.failed,by
    rw[hB2.pend];exact hS.runs.congr fun q _ q2=>hB2.keep q q2⟩
   refine a_ (Rk h0 (show lo + (a₀.size - lo)<=a₀.size by lia) (by lia) hB fun m st2 hB2 m1 m2 um=>?_);dsimp only;refine cj (fun c=>?_) fun c=>?_
   ·refine a_ (lx (kv ⟨rfl,?_⟩));refine a_ (aaE h0 (show lo + min (a₀.size - lo) (oP a₀.size a₀.size 0)<=a₀.size by lia) (by lia) hB2 um fun st3 hB3 u3=>?_);simp only[eB,bz,if_false];have hS0:=back st3 hB3;have IW:∀CG,Sr κ rk a₀ lo CG->(∀q,lo<=q->(aI CG)[q]?=(aI st3)[q]?)->Sr κ rk a₀ (lo + min (a₀.size - lo) (oP a₀.size a₀.size 0)) (mT CG ((cb CG).push (lo,min (a₀.size - lo) (oP a₀.size a₀.size 0),0))):=fun CG h4 hk4=>h4.push (by lia) (u3.congr fun q q1 _=>hk4 q q1);refine a_ (gE ?_);cases cc:(cb st3).back? with
    |none =>
     dsimp only;exact a_ (iN (br ⟨_,rfl,by lia,by lia,IW _ hS0 fun _ _=>rfl⟩))
    |some t =>
     obtain⟨s1,n1,p1⟩:=t;dsimp only;refine a_ (eC (eQ (I:=fun _ c st'=>c=(none,())/\Sr κ rk a₀ lo st'/\∀q,lo<=q->(aI st')[q]?=(aI st3)[q]?)
      (Q:=fun c st'=>c=(none,())/\Sr κ rk a₀ lo st'/\∀q,lo<=q->(aI st')[q]?=(aI st3)[q]?) ?Wf (fun _ _ hh=>hh) ⟨rfl,hS0,fun _ _=>rfl⟩) ?Wg)
     case Wg =>
      rintro c st' ⟨rfl,hS,hk⟩;dsimp only;refine a_ (iN (a_ (iN (br ⟨_,rfl,by lia,by lia,IW _ (hS.acd _ ?_) hk⟩))));exact fun t=>rfl
     case Wf =>
      rintro x c st' _ hx ⟨rfl,hS,hk⟩;refine a_ (gE ?_);by_cases c:(cb st').size > 1
      ·rw[if_pos c,getElem?_pos (cb st') ((cb st').size - 2) (by lia)];dsimp only;refine cj (fun _=>br ⟨rfl,hS,hk⟩) fun _=>?_;refine a_ (ur h0 hS (by lia) (by lia) fun st2 hS2 _ hk2=>?_);simp only[eB,bz,if_false];exact br ⟨rfl,hS2,fun q hq=>(hk2 q hq).trans (hk q hq)⟩
      ·rw[if_neg c];exact br ⟨rfl,hS,hk⟩
   ·have hS0:=back st2 hB2;have IW:∀CG,Sr κ rk a₀ lo CG->(∀q,lo<=q->(aI CG)[q]?=(aI st2)[q]?)->Sr κ rk a₀ (lo + m) (mT CG ((cb CG).push (lo,m,0))):=fun CG h4 hk4=>h4.push (by lia) (um.congr fun q q1 _=>hk4 q q1);refine a_ (gE ?_);cases cc:(cb st2).back? with
    |none =>
     dsimp only;exact a_ (iN (br ⟨_,rfl,by lia,by lia,IW _ hS0 fun _ _=>rfl⟩))
    |some t =>
     obtain⟨s1,n1,p1⟩:=t;dsimp only;refine a_ (eC (eQ (I:=fun _ c st'=>c=(none,())/\Sr κ rk a₀ lo st'/\∀q,lo<=q->(aI st')[q]?=(aI st2)[q]?)
      (Q:=fun c st'=>c=(none,())/\Sr κ rk a₀ lo st'/\∀q,lo<=q->(aI st')[q]?=(aI st2)[q]?) ?Wf (fun _ _ hh=>hh) ⟨rfl,hS0,fun _ _=>rfl⟩) ?Wg)
     case Wg =>
      rintro c st' ⟨rfl,hS,hk⟩;dsimp only;refine a_ (iN (a_ (iN (br ⟨_,rfl,by lia,by lia,IW _ (hS.acd _ ?_) hk⟩))));exact fun t=>rfl
     case Wf =>
      rintro x c st' _ hx ⟨rfl,hS,hk⟩;refine a_ (gE ?_);by_cases c:(cb st').size > 1
      ·rw[if_pos c,getElem?_pos (cb st') ((cb st').size - 2) (by lia)];dsimp only;refine cj (fun _=>br ⟨rfl,hS,hk⟩) fun _=>?_;refine a_ (ur h0 hS (by lia) (by lia) fun st2 hS2 _ hk2=>?_);simp only[eB,bz,if_false];exact br ⟨rfl,hS2,fun q hq=>(hk2 q hq).trans (hk q hq)⟩
      ·rw[if_neg c];exact br ⟨rfl,hS,hk⟩
end
end Sb
namespace Sb
open PySem PySem.W PyProof.Rows So
noncomputable def rkI(lt:Nat->Nat->Bool)(n i:Nat):Int:=((bS n).filter fun j=>lt j i).length
theorem sG{α:Type}{p q:α->Bool}:∀{l:List α},(∀x∈l,p x=true->q x=true)->(l.filter p).length<=(l.filter q).length
 | [],_=>bE _
 |x::l,h=>by
  have ih:=sG (l:=l) fun y hy=>h y (.tail _ hy);have hx:=h x (.head _);rw[eD,eD];cases c:p x with
  |false =>
   simp only[bz,if_false];split
   ·simp only[ck];lia
   ·exact ih
  |true =>
   rw[hx c];simp only[if_true,ck];lia
theorem Wh{α:Type}{p q:α->Bool}:∀{l:List α}{z:α},(∀x∈l,p x=true->q x=true)->z∈l->p z=false->q z=true->(l.filter p).length < (l.filter q).length
 | [],_,_,hz,_,_=>by cases hz
 |x::l,z,h,hz,pz,qz=>by
  have ih0:=sG (l:=l) fun y hy=>h y (.tail _ hy);have hx:=h x (.head _);rw[eD,eD];rcases cm.mp hz with rfl|hz
  ·rw[pz,qz];simp only[bz,if_false,if_true,ck];lia
  ·have ih:=Wh (l:=l) (fun y hy=>h y (.tail _ hy)) hz pz qz;cases c:p x with
   |false =>
    simp only[bz,if_false];split
    ·simp only[ck];lia
    ·exact ih
   |true =>
    rw[hx c];simp only[if_true,ck];lia
theorem acf{lt:Nat->Nat->Bool}(O:Ord lt){n i j:Nat}(hi:i < n):decide (rkI lt n i < rkI lt n j)=lt i j:=by
 unfold rkI;cases c:lt i j with
 |true =>
  refine decide_eq_true (Int.ofNat_lt.mpr (Wh (z:=i) (fun k _ hk=>?_) (fq.mpr hi) (irr O i) c));cases d:lt k j with
  |true=>rfl
  |false =>
   have h1:lt i k=false:=O.as k i hk;have h2:=O.tr j k i d h1;rw[c]at h2;cases h2
 |false =>
  refine decide_eq_false fun q=>?_;have q:=Int.ofNat_lt.mp q;have:=sG (p:=fun k=>lt k j) (q:=fun k=>lt k i) (l:=bS n) fun k _ hk=>by
   cases d:lt k i with
   |true=>rfl
   |false =>
    have h2:=O.tr j i k c d;rw[hk]at h2;cases h2
  lia
theorem Wj{α:Type}{d:α}{l1 l2:List α}(h:l1.Perm l2):∃q:List Nat,q.Perm (bS l2.length)/\l1=q.map fun i=>l2.getD i d:=by
 induction h with
 |nil=>exact⟨[],.refl _,rfl⟩
 |cons x h ih =>
  obtain⟨q,hq,e⟩:=ih;refine⟨0::q.map (· + 1),?_,?_⟩
  ·rw[ck,nS];exact(hq.map _).cons 0
  ·rw[bX,gz,e];simp[s_]
 |swap x y l =>
  refine⟨1::0::(bS l.length).map (· + 2),?_,?_⟩
  ·rw[ck,ck,nS,nS,bX,gz];exact h_.swap 0 1 _
  ·rw[bX,bX,gz];have:l=(bS l.length).map fun i=>l.getD i d:=by
    apply ls
    ·simp
    ·intro i h1 h2;simp[h1]
   simp only[s_];rw[List.getD_cons_succ,List.getD_cons_zero,List.getD_cons_zero];congr 2
 |trans h1 h2 ih1 ih2 =>
  obtain⟨q1,p1,e1⟩:=ih1;obtain⟨q2,p2,e2⟩:=ih2;have l2:=h2.length_eq;have lq:=p2.length_eq;rw[d_]at lq;refine⟨q1.map fun i=>q2.getD i 0,?_,?_⟩
  ·refine(p1.map _).trans (h_.trans (oy ?_) p2);apply ls
   ·simp;lia
   ·intro i h1 h2;simp only[cn,d_]at h1;simp only[List.getElem_map,List.getElem_range,gx];rw[d9 h2];rfl
  ·rw[e1,gz];refine mB fun i hi=>?_;have hi':i < q2.length:=by have:=fq.mp (p1.mem_iff.mp hi);lia
   show oj _ i d=oj _ (oj q2 i 0) d;rw[e2];simp only[gx,di,d9 hi',n_,og]
section
variable{prog:aS}{w:az}{A:ba}{E:aa->af->Prop}{s:af}
theorem Wk{lt:Nat->Nat->Bool}{κ:e_}{vs:List aa}{Q:bq->af->Prop}(O:Ord lt)(h2:2<=vs.length)(ha:agO prog w A κ vs lt s)
  (hd:∀i i',i < vs.length->i' < vs.length->vs.getD i aa.none=vs.getD i' aa.none->∀j,lt j i=lt j i')
  (h:∀st,Le lt vs st->Q st s):aw (ay prog w) A ((sortRuns').run (q_ κ (vs.toArray.zip vs.toArray) #[] 7 none)) (fun r s'=>Q r.2 s') E s:=by
 classical
 let it:Nat->ax:=fun i=>(vs.getD i aa.none,vs.getD i aa.none)
 let rk:ax->Int:=fun x=>if h:∃i,i < vs.length/\it i=x then rkI lt vs.length (vF h) else 0
 have rki:∀i,i < vs.length->rk (it i)=rkI lt vs.length i:=fun i hi=>by
  have ex:∃j,j < vs.length/\it j=it i:=⟨i,hi,rfl⟩
  show(if h:∃j,j < vs.length/\it j=it i then rkI lt vs.length (vF h) else 0)=_;rw[dif_pos ex];obtain⟨c1,c2⟩:=Classical.choose_spec ex;unfold rkI;have:=hd _ i c1 hi (congrArg Prod.fst c2);rw[show(fun j=>lt j (vF ex))=fun j=>lt j i from funext this]
 have hz:(vs.toArray.zip vs.toArray).toList=(bS vs.length).map it:=by
  apply ls
  ·simp
  ·intro i h1 h2;simp at h1;simp[it,h1]
 have hsz:(vs.toArray.zip vs.toArray).size=vs.length:=by simp
 have hA:Ax prog w A s κ rk (vs.toArray.zip vs.toArray):=by intro x y C E' hx hy hC;rw[hz]at hx hy;obtain⟨i,hi,rfl⟩:=dC.mp hx;obtain⟨j,hj,rfl⟩:=dC.mp hy;have hi:=fq.mp hi;have hj:=fq.mp hj;rw[rki i hi,rki j hj,acf O hi]at hC;exact ha i j C E' hi hj hC
 have main:=Ft (prog:=prog) (w:=w) (A:=A) (E:=E) (s:=s) (st:=q_ κ (vs.toArray.zip vs.toArray) #[] 7 none) (Q:=fun _ st=>Le lt vs st) hA rfl rfl rfl rfl (by rw[hsz];exact h2) fun st p1 p2 p3=>?_
 ·exact d6 main (fun r s' ⟨e,hs⟩=>by subst e;exact h _ hs) fun _ _ e=>e
 ·obtain⟨q,hq,e⟩:=Wj (d:=it 0) (qV.mp p1);have ln:(vs.toArray.zip vs.toArray).toList.length=vs.length:=by simp
  rw[ln]at hq;have lq:=hq.length_eq;rw[d_]at lq;have qlt:∀i∈q,i < vs.length:=fun i hi=>fq.mp (hq.mem_iff.mp hi);have e':(aI st).toList=q.map it:=by rw[e];refine mB fun i hi=>?_;rw[hz,gx,di,List.getElem?_range (qlt i hi)];rfl
  refine⟨q.toArray,⟨by simp[lq],fun i=>?_,by simpa using hq⟩,fun i j hij hj=>?_,?_,p2⟩
  ·rw[ke];by_cases c:i < q.length
   ·have:q.toArray[i]?=some q[i]:=by simp[c]
    rw[this];exact qlt _ (eW c)
   ·have:q.toArray[i]?=none:=by simp;lia
    rw[this];show 0 < vs.length;lia
  ·have hi':i < q.length:=by lia
   have hj':j < q.length:=by lia
   have g:∀k (hk:k < q.length),R rk (aI st) k=rkI lt vs.length q[k]:=fun k hk=>by rw[<- rki _ (qlt _ (eW hk))];refine jf ?_;rw[<- jb,e',di,d9 hk];rfl
   have u:=p3 i j (by lia) (by rw[hsz];exact hj);rw[gS,gS,g i hi',g j hj']at u;have e1:q.toArray.getD i 0=q[i]:=by simp[ke,hi']
   have e2:q.toArray.getD j 0=q[j]:=by simp[ke,hj']
   rw[e1,e2,<- acf O (qlt _ (eW hj'))];exact decide_eq_false (by lia)
  ·apply pV.mp;rw[Array.toList_map,e',gz];rfl
end
end Sb
namespace So
open PySem PySem.W PyProof.Rows PySem.Calls
section
variable{prog:aS}{w:az}{A:ba}{E:aa->af->Prop}{s:af}
theorem CZ:∀{ks js:List Int}{xs:List aa},ItemsAre (cq prog w) ks xs->ItemsAre (cq prog w) js xs->ks=js
 |_,_,_,.nil,.nil=>rfl
 |_,_,_,.cons h1 h2,.cons h3 h4=>by obtain⟨t,e1⟩:=lL h1;obtain⟨u,e2⟩:=lL h3;rw[e1]at e2;cases e2;rw[CZ h2 h4]
theorem KeysAre.det{h:aE}{vs:List aa}{aY:LL}(k:KeysAre prog w h vs aY):∀i i',i < vs.length->i' < vs.length->vs.getD i aa.none=vs.getD i' aa.none->∀j,vW (aY.getD j []) (aY.getD i [])=vW (aY.getD j []) (aY.getD i' []):=by intro i i' hi hi' he j;obtain⟨b,e1,o,its,n,q1,q2,q3,q4⟩:=k.2 i vs[i] (d9 hi);obtain⟨b',e2,o',its',n',r1,r2,r3,r4⟩:=k.2 i' vs[i'] (d9 hi');rw[gx,gx,d9 hi,d9 hi',og,og,e1,e2]at he;cases he;rw[q1]at r1;cases r1;rw[q3]at r3;cases r3;rw[CZ q4 r4]
theorem zK{a:ae}{vs:List aa}{aY:LL}{n:Nat}{P:ot->af->Prop}(ho:s.heap.get? a=some (eI "list" vs.toArray n))
  (hk:KeysAre prog w s.heap vs aY) (hne:∀ks∈aY,ks≠[]) (h64:vs.length < 4900)
  (h:∀(p:Array Nat),Ii aY p->P (.done (.ret .none)) { s with heap:=sortedHeap s.heap a vs (kx (p.toList.map fun i=>vs.getD i aa.none)) }) :
  aw (ay prog w) A (Builtin.«list.sort» ⟨[.ref a],[]⟩) P E s:=by
 rw[list_sort_plain];have ha:a < s.heap.objs.size:=bP ho;refine ah (listItems_at ho rfl ?_);refine ah (vS ho rfl ?_ (by rw[dk,d8];lia) (eJ _));obtain⟨e1,ho1⟩:∃e1,(s.heap.update a (eA fun _=>#[])).get? a=some (eI "list" #[] e1):=⟨_,vT ho (fun _=>#[])⟩
 refine ah (v7 ho1 rfl ?_);refine ah (wpAny_newTuple ?_ (by show vs.length<=_;rw[d8];lia));refine ah (wpAny_newList ?_ (eJ _));refine fI ?_;have ho6:(((s.heap.update a (eA fun _=>#[])).push (eI "tuple" vs.toArray 0)).push (eI "list" #[] 0)).get? a=some (eI "list" #[] e1):=by rw[aE.get?_push_ne _ _ _ (by rw[size_push',rj];exact cv (j9 ha)),aE.get?_push_ne _ _ _ (by rw[rj];exact cv ha)];exact ho1
 show aw (ay prog w) A _ P E { s with heap:=((s.heap.update a (eA fun _=>#[])).push (eI "tuple" vs.toArray 0)).push (eI "list" #[] 0) };dsimp only;have hsz:vs.toArray.size=vs.length:=by simp
 have hk6:KeysAre prog w (((s.heap.update a (eA fun _=>#[])).push (eI "tuple" vs.toArray 0)).push (eI "list" #[] 0)) vs aY:=hk.moved fun b o e c=>by
  refine cy _ (cy _ ?_);have:b≠a:=fun z=>by subst z;rw[ho]at e;cases e;exact absurd (aa.type.inj (show aa.type "list"=aa.type "tuple" from c)) (by decide)
  rw[lz _ _ _ _ this];exact e
 by_cases h2:vs.toArray.size < 2
 ·rw[if_pos h2,if_pos h2];refine ah (aT ?_);rw[StateT.run_pure];refine ah (aT ?_);dsimp only;refine ah (v7 ho6 rfl ?_);refine ah (vS ho6 rfl ?_ (hsz2:=by rw[Array.size_map];show(pairsOf vs).size<=_;rw[pairsOf_size,d8];lia));simp only[bne_self_eq_false,bz,if_false];have hz:aY.length < 2:=by rw[hk.1,<- hsz];exact h2
  have hq:=h (kx (bS aY.length)) (Ij hz);have e:(aI (q_ general' (vs.toArray.zip vs.toArray) #[] 7 none)).map (·.2)=kx ((kx (bS aY.length)).toList.map fun i=>vs.getD i aa.none):=by rw[hk.1];show(vs.toArray.zip vs.toArray).map (·.2)=_;apply pV.mp;apply vy;intro i;simp;by_cases hi:i < vs.length <;> simp[hi]
  exact aT (by rw[e];exact hq)
 ·rw[if_neg h2,if_neg h2];obtain⟨fs,ht,hl,hfi⟩:=hk6.tups hne;have h2':2<=vs.length:=by rw[<- hsz];lia
  refine ah (kat_kind (T:=.type "int") ht (by lia) (fun v hv=>?_) rfl ?_)
  ·obtain⟨i,t,rfl⟩:=hfi v hv;exact Looks.now
  ·refine ah (d6 (Sb.Wk (E:=E) (Q:=fun st' s'=>s'={ s with heap:=((s.heap.update a (eA fun _=>#[])).push (eI "tuple" vs.toArray 0)).push (eI "list" #[] 0) }/\Le (fun i j=>vW (aY.getD i []) (aY.getD j [])) vs st') (aem aY) h2' hk6.asks hk6.det fun st' hs=>⟨rfl,hs⟩) ?_ fun _ _ e=>e);rintro⟨⟨⟩,st'⟩ s' ⟨rfl,p,a1,a2,a3,hf⟩;dsimp only at a3 hf ⊢;refine ah (v7 ho6 rfl ?_);rw[a3];refine ah (vS ho6 rfl ?_ (hsz2:=by simp only[dk,cn,jS,a1.sz];rw[d8];lia));rw[hf];simp only[bne_self_eq_false,bz,if_false];rw[<- hk.1]at a1 a2;exact aT (h p (VH a1 a2))
end
end So
namespace So
open PySem PySem.Spec PySem.W PyProof.Rows PySem.Calls PySem.SetTable Tb
section
variable{prog:aS}{w:az}{A:ba}{E:aa->af->Prop}{s:af}{U:ae->List Int->Prop}
noncomputable def Qt(prog:aS)(w:az)(U:ae->List Int->Prop)(o:Obj)(aY:LL):Prop :=
 ∃(L:List gC) (ep:Nat) (t:b_) (f:Int×aa->List Int),o=eG L ep t/\Good t L/\L.length * 5 < t.mask * 3/\t.mask < 8192/\(t.plain=true/\t.led=!yd w)/\(∀e∈L,∃b,e.2.2=.ref b/\e.2.1=hK prog w (f e.2)/\U b (f e.2))/\(L.map fun e=>f e.2).Perm aY/\aY.Nodup
theorem dX.obj{h:aE}{a:ae}{aY:LL}(x:dX prog w U h a aY):∃o,h.get? a=some o/\Qt prog w U o aY:=by obtain⟨L,ep,t,f,ho,g,room,mb,pl,hf,hp,nd,uu⟩:=x;refine⟨_,ho,L,ep,t,f,rfl,g,room,mb,pl,fun e he=>?_,hp,nd⟩;obtain⟨b,h1,h2,h3⟩:=hf e he;exact⟨b,h1,h3,uu e he b h1⟩
theorem Qt.at{h:aE}{a:ae}{o:Obj}{aY:LL}(x:Qt prog w U o aY)(ho:h.get? a=some o)(hU:∀b ks,U b ks->da (cq prog w) h ks b):dX prog w U h a aY:=by
 obtain⟨L,ep,t,f,rfl,g,room,mb,pl,hf,hp,nd⟩:=x;refine⟨L,ep,t,f,ho,g,room,mb,pl,fun e he=>?_,hp,nd,fun e he b hb=>?_⟩
 ·obtain⟨b,h1,h2,h3⟩:=hf e he;exact⟨b,h1,hU _ _ h3,h2⟩
 ·obtain⟨b',h1,h2,h3⟩:=hf e he;rw[hb]at h1;cases h1;exact h3
noncomputable def Pq(U:ae->List Int->Prop)(out:List aa)(aY:LL):Prop:=out.length=aY.length/\∀(i:Nat) v,out[i]?=some v->∃b,v=.ref b/\U b (aY.getD i [])
theorem Bv{l l':LL}(p:l.Perm l'):bO l=bO l':=zq ((fH l).trans p) (vh l)
theorem uw{vs:List aa}{aY Fv:LL}{p:Array Nat}(ho:Pq U vs Fv)(hp:Ii Fv p)(pm:Fv.Perm aY):Pq U (p.toList.map fun i=>vs.getD i aa.none) (bO aY):=by
 rw[<- Bv pm,<- hp.2];refine⟨by simp,fun i v hv=>?_⟩;rw[di]at hv;cases e:p.toList[i]? with
 |none=>rw[e]at hv;cases hv
 |some j =>
  rw[e]at hv;simp at hv;have hj:j < Fv.length:=by have:j∈bS Fv.length:=hp.1.mem_iff.mp (i7 e);simpa using this
  have hj':j < vs.length:=by rw[ho.1];exact hj
  obtain⟨b,q1,q2⟩:=ho.2 j vs[j] (d9 hj');refine⟨b,?_,?_⟩
  ·rw[<- hv];simp[hj',q1]
  ·have:((p.toList.map fun i=>Fv.getD i []).getD i [])=Fv.getD j []:=by rw[gx,di,e];rfl
   rw[this];exact q2
theorem wK{x:aa}{vs:List aa}{aY:LL}{Q:aa->af->Prop}
  (ajc:∀(Q':List aa->af->Prop) (E':aa->af->Prop),(∀h' tk,(∀b o,s.heap.get? b=some o->h'.get? b=some o)->s.heap.objs.size<=h'.objs.size->Q' vs { s with heap:=h',toks:=tk })->aw (ay prog w) A.in1 (collect x) Q' E' s)
  (hk:KeysAre prog w s.heap vs aY) (hne:∀ks∈aY,ks≠[]) (h64:vs.length < 4900)
  (h:∀h' tk l n p,(∀b o,s.heap.get? b=some o->h'.get? b=some o)->s.heap.objs.size<=l->Ii aY p->h'.get? l=some (eI "list" (kx (p.toList.map fun i=>vs.getD i aa.none)) n)->Q (.ref l) { s with heap:=h',toks:=tk }) :
  aw (ay prog w) A (call (.builtin "sorted") [x]) Q E s:=by
 refine Calls.call_function_entry kind_sorted plain_sorted entry_sorted (args_sorted1 _) ?_;unfold Builtin.«sorted»;refine ah (m:=checkCount "sorted" 1 1 _) (aT ?_);refine ah (ajc _ _ fun h1 tk k1 z1=>?_);refine ah (wpAny_newList ?_ (by rw[d8];lia));have hoL:(h1.push (eI "list" vs.toArray 0)).get? h1.objs.size=some (eI "list" vs.toArray 0):=dA _ rfl;have k2:∀b o,s.heap.get? b=some o->(h1.push (eI "list" vs.toArray 0)).get? b=some o:=fun b o e=>cy _ (k1 b o e);show aw _ _ _ _ _ { s with heap:=h1.push (eI "list" vs.toArray 0),toks:=tk };refine ah (fI (ku slot_list_sort ⟨_,hoL,rfl⟩ entry_list_sort (zK hoL (hk.moved fun b o e _=>k2 b o e) hne h64 fun p hp=>⟨_,rfl,?_⟩) (args_list_sort _)));refine aT ⟨_,rfl,?_⟩;unfold sortedHeap;have ne1:∀b o,s.heap.get? b=some o->b≠h1.objs.size:=fun b o e=>cv (d5 (bP e) z1);have g0:=cy (eI "list" #[] 0) (cy (eI "tuple" vs.toArray 0) (vT hoL (fun _=>#[])));refine h _ _ _ _ p (fun b o e=>?_) z1 hp (vT g0 (fun _=>kx (p.toList.map fun i=>vs.getD i aa.none)));rw[lz _ _ _ _ (ne1 b o e)];refine cy _ (cy _ ?_);rw[lz _ _ _ _ (ne1 b o e)];exact k2 b o e
theorem Lj{D:ae}{aY:LL}{Q:aa->af->Prop}(hh:A.handled=none)(hS:dX prog w U s.heap D aY)(hne:∀ks∈aY,ks≠[])(h64:aY.length < 4900)
  (h:∀h' tk l n (out:List aa),(∀b o,s.heap.get? b=some o->h'.get? b=some o)->s.heap.objs.size<=l->Pq U out (bO aY)->h'.get? l=some (eI "list" out.toArray n)->Q (.ref l) { s with heap:=h',toks:=tk }) :
  aw (ay prog w) A (call (.builtin "sorted") [.ref D]) Q E s:=by
 obtain⟨L,ep,t,f,ho,g,room,mb,pl,hf,hp,nd,uu⟩:=hS;have hlen:L.length=aY.length:=by have:=hp.length_eq;simpa using this
 have h7:=g.m7;have gs:Goes w L t:=⟨g.lies (by lia),by lia,pl.1,pl.2⟩
 have op:=CN w D ep L;have osz:(nJ w D ep L).toList.length=L.length:=by rw[jS,sy]
 have kp:((nJ w D ep L).toList.map f).Perm aY:=((op.map f).trans (oy (by rw[gz];rfl))).trans hp;have each:∀x∈(nJ w D ep L).toList,∃b,x.2=.ref b/\da (cq prog w) s.heap (f x) b/\U b (f x):=fun x hx=>by obtain⟨e,he,rfl⟩:=dC.mp (op.mem_iff.mp hx);obtain⟨b,h1,h2,h3⟩:=hf e he;exact⟨b,h1,h2,uu e he b h1⟩
 have at_:∀(i:Nat) v,((nJ w D ep L).toList.map (·.2))[i]?=some v->∃x,x∈(nJ w D ep L).toList/\v=x.2/\((nJ w D ep L).toList.map f).getD i []=f x:=fun i v hv=>by
  rw[di]at hv;cases e:(nJ w D ep L).toList[i]? with
  |none=>rw[e]at hv;cases hv
  |some x =>
   rw[e]at hv;refine⟨x,i7 e,(et hv).symm,?_⟩;rw[gx,di,e];rfl
 refine wK (vs:=(nJ w D ep L).toList.map (·.2)) (aY:=(nJ w D ep L).toList.map f) (fun Q' E' hq=>?_) ⟨by simp,fun i v hv=>?_⟩ (fun ks hks=>?_) (by rw[cn,osz];lia) fun h' tk l n p k hl hsp hg=>?_
 ·exact Ih (by simpa using hh) ho gs (by lia) hq
 ·obtain⟨x,hx,rfl,e⟩:=at_ i v hv;obtain⟨b,h1,h2,h3⟩:=each x hx;exact⟨b,h1,by rw[e];exact h2⟩
 ·exact hne ks (kp.mem_iff.mp hks)
 ·refine h h' tk l n _ k hl (uw ⟨by simp,fun i v hv=>?_⟩ hsp kp) hg;obtain⟨x,hx,rfl,e⟩:=at_ i v hv;obtain⟨b,h1,h2,h3⟩:=each x hx;exact⟨b,h1,by rw[e];exact h3⟩
end
end So
namespace Vl
open PySem PySem.Spec L2 So Tb
noncomputable def aaK(P:aS)(w:az)(U:ae->List Int->Prop)(a:ae)(aY:LL):aE->Prop:=fun h=>∃o,h.get? a=some o/\Qt P w U o aY
section
variable{X:Cx}{B:Bs}{W:Wi}
theorem Fw{pins:List (ae×Obj)}{σ:St}{H:Hp}{s:af}{b:ae}{ks:List Int}(I:Inv X pins σ H s)(h:mX X.K H b (ks.map V.int)):da (cq X.prog X.w) s.heap ks b:=by
 obtain⟨its,r,⟨o,ho,hc,n,hd⟩,hz⟩:=I.tuple h;refine⟨o,its.toArray,n,ho,hc,hd,?_⟩;show ItemsAre _ ks its;clear hd h hz
 induction ks generalizing its with
 |nil=>cases r;exact .nil
 |cons k ks ih =>
  cases r with
  |cons r1 r2 =>
   obtain⟨t,rfl⟩:=r1;exact .cons (intKind_is X.prog X.w k t) (ih _ r2)
noncomputable def acg(P:aS)(w:az)(K:ai):List V->Hp->VK->Prop:=fun xs H Q=>∃(p:ae) (ys:List V) (aY:LL) (U:ae->List Int->Prop),xs=[.ref p]/\(qp K H p ys∨mX K H p ys)/\aY.length=ys.length/\(bT aY).length < 4900 /\
 (∀(i:Nat) v,ys[i]?=some v->∃b,v=.ref b/\mX K H b ((aY.getD i []).map V.int)/\U b (aY.getD i []))/\∀l,H l=none->Q (.ref l) (upd H l (.ext (aaK P w U l (bT aY))))
theorem Vals.get'{xs:List V}{us:List aa}(r:Vals xs us){i:Nat}{u:aa}(h:us[i]?=some u):∃x,xs[i]?=some x/\RelV x u:=by
 cases e:xs[i]? with
 |none=>have:=r.none_of e;rw[this]at h;cases h
 |some x=>obtain⟨u',h1,h2⟩:=r.get e;rw[h]at h1;cases h1;exact⟨x,rfl,h2⟩
theorem Rm(hc:X.calm=true)(hu:X.A.units + 8 < bu):gZ X (.type "set") (acg X.prog X.w X.K):=by
 intro pins s σ H xs us Q I r h;obtain⟨p,ys,aY,U,rfl,hs,hlen,hz,hk,q⟩:=h;obtain⟨u,rfl,rx⟩:=r.one;cases rx;obtain⟨its,rv,hseq⟩:∃its:List aa,Vals ys its/\(s.heap.IsList p its.toArray∨s.heap.IsTuple p its.toArray):=by
  rcases hs with hs|hs
  ·obtain⟨its,rv,pl,_⟩:=I.list hs;exact⟨its,rv,.inl pl.isList⟩
  ·obtain⟨its,rv,pl,_⟩:=I.tuple hs;exact⟨its,rv,.inr pl⟩
 have hl:=rv.length;refine Fe (U:=U) (aY:=aY) (I.ok.hd hc) hu hseq hz (fun i v hv=>?_) (by rw[dk];lia) fun h' tk k hS=>?_
 ·obtain⟨x,h1,h2⟩:=Vals.get' rv (i:=i) (u:=v) (by simpa using hv);obtain⟨b,rfl,h3,h4⟩:=hk i x h1;exact⟨b,h2,Fw I h3,h4⟩
 ·refine⟨.ref s.heap.objs.size,_,I.laid (t':=tk) k (bE _) (show gq X.prog X.w _ h' _ (.ext (aaK X.prog X.w U s.heap.objs.size (bT aY))) from⟨So.dX.obj hS,?_,?_⟩),rfl,q _ I.fresh⟩
  ·obtain⟨o,ho,_⟩:=So.dX.obj hS;exact⟨o,ho⟩
  ·rintro h1 h2 ⟨o,ho,x⟩ hk';exact⟨o,hk' o ho,x⟩
noncomputable def aaL(P:aS)(w:az)(K:ai):List V->Hp->VK->Prop:=fun xs H Q=>∃(p:ae) (aY:LL) (U:ae->List Int->Prop),xs=[.ref p]/\H p=some (.ext (aaK P w U p aY))/\(∀b ks,U b ks->mX K H b (ks.map V.int))/\(∀ks∈aY,ks≠[])/\aY.length < 4900 /\
 ∀l ys,H l=none->ys.length=(bO aY).length->(∀(i:Nat) v,ys[i]?=some v->∃b,v=.ref b/\U b ((bO aY).getD i []))->Q (.ref l) (upd H l (.lst ys))
theorem Fx(hc:X.calm=true):gZ X (.builtin "sorted") (aaL X.prog X.w X.K):=by
 intro pins s σ H xs us Q I r h;obtain⟨p,aY,U,rfl,hp,hU,hne,h64,q⟩:=h;obtain⟨u,rfl,rx⟩:=r.one;cases rx;obtain⟨⟨o,ho,x⟩,_⟩:=I.hok _ _ hp;have hS:=So.Qt.at x ho (fun b ks hb=>Fw I (hU b ks hb));refine So.Lj (I.ok.hd hc) hS hne h64 fun h' tk l n out k hl ho hg=>?_;have hln:H l=none:=I.hok.fresh hl;have hv:∃ys:List V,Vals ys out/\ys.length=(bO aY).length/\∀(i:Nat) v,ys[i]?=some v->∃b,v=.ref b/\U b ((bO aY).getD i []):=by
  refine⟨out.map fun v=>match v with|.ref b=>V.ref b|_=>V.non,?_,by simp[ho.1],fun i v hv=>?_⟩
  ·have:∀v∈out,∃b,v=aa.ref b:=fun v hv=>by obtain⟨i,hi⟩:=jn.mp hv;obtain⟨b,e,_⟩:=ho.2 i v hi;exact⟨b,e⟩
   clear ho hg
   induction out with
   |nil=>exact .nil
   |cons a out ih =>
    obtain⟨b,rfl⟩:=this a (.head _);exact .cons rfl (ih fun v hv=>this v (.tail _ hv))
  ·rw[di]at hv;cases e:out[i]? with
   |none=>rw[e]at hv;cases hv
   |some v' =>
    rw[e]at hv;obtain⟨b,rfl,h2⟩:=ho.2 i v' e;exact⟨b,(et hv).symm,h2⟩
 obtain⟨ys,rv,yl,yv⟩:=hv;have e0:s.heap.objs.size<=l:=hl;refine⟨.ref l,_,I.laid (t':=tk) k hl (show gq X.prog X.w _ h' _ (.lst ys) from⟨?_,out,n,rv,hg⟩),rfl,q l ys hln yl yv⟩;have:(bO aY).length=aY.length:=(fH aY).length_eq;rw[yl,this,d8];lia
noncomputable def jz:List D->Option (List Int)
 | []=>some []
 | .int i::ds=>(jz ds).map (i::·)
 |_=>none
noncomputable def jA:List D->Option LL
 | []=>some []
 | .tup ds::es=>match jz ds with|some k=>(jA es).map (k::·)|none=>none
 |_=>none
noncomputable def tupK(ks:List Int):D:=.tup (ks.map .int)
theorem Ro(ks:List Int):jz (ks.map .int)=some ks:=by
 induction ks with
 |nil=>rfl
 |cons k ks ih=>simp[jz,ih]
theorem zL:∀{ds:List D}{ks:List Int},jz ds=some ks->ds=ks.map .int
 | [],ks,h=>by simp[jz]at h;subst h;rfl
 | .int i::ds,ks,h=>by
  simp only[jz]at h;cases e:jz ds with
  |none=>rw[e]at h;cases h
  |some k=>rw[e]at h;simp at h;subst h;rw[zL e];rfl
 | .non::ds,ks,h=>by simp[jz]at h
 | .bl _::ds,ks,h=>by simp[jz]at h
 | .str _::ds,ks,h=>by simp[jz]at h
 | .tup _::ds,ks,h=>by simp[jz]at h
 | .lst _::ds,ks,h=>by simp[jz]at h
 | .GF _ _::ds,ks,h=>by simp[jz]at h
 | .GJ _ _::ds,ks,h=>by simp[jz]at h
 | .fn _::ds,ks,h=>by simp[jz]at h
 | .obj _ _ _::ds,ks,h=>by simp[jz]at h
theorem Dc(aY:LL):jA (aY.map tupK)=some aY:=by
 induction aY with
 |nil=>rfl
 |cons k aY ih=>simp[jA,tupK,Ro]at ih ⊢;exact ih
theorem vp:∀{ds:List D}{aY:LL},jA ds=some aY->ds=aY.map tupK
 | [],ks,h=>by simp[jA]at h;subst h;rfl
 | .tup es::ds,ks,h=>by
  simp only[jA]at h;cases e:jz es with
  |none=>rw[e]at h;cases h
  |some k =>
   rw[e]at h;cases e2:jA ds with
   |none=>rw[e2]at h;cases h
   |some k2=>rw[e2]at h;simp at h;subst h;rw[vp e2,zL e];rfl
 | .int i::ds,ks,h=>by simp[jA]at h
 | .non::ds,ks,h=>by simp[jA]at h
 | .bl _::ds,ks,h=>by simp[jA]at h
 | .str _::ds,ks,h=>by simp[jA]at h
 | .lst _::ds,ks,h=>by simp[jA]at h
 | .GF _ _::ds,ks,h=>by simp[jA]at h
 | .GJ _ _::ds,ks,h=>by simp[jA]at h
 | .fn _::ds,ks,h=>by simp[jA]at h
 | .obj _ _ _::ds,ks,h=>by simp[jA]at h
theorem pK{K:ai}{G:Hp}:∀{ks:List Int}{vs:List V},bD K G (ks.map .int) vs->vs=ks.map V.int
 | [],vs,r=>bA.mp r
 |k::ks,vs,r=>by obtain⟨v,vs',rfl,r1,r2⟩:=aV.mp r;rw[aX.mp r1,pK r2];rfl
theorem Ja{K:ai}{G:Hp}{ks:List Int}{v:V}:Rep K G (tupK ks) v↔∃b,v=.ref b/\UG K G b ks:=by
 unfold tupK UG;constructor
 ·intro h;obtain⟨a,vs,rfl,q,r⟩:=bN.mp h;rw[pK r]at q;exact⟨a,rfl,q⟩
 ·rintro⟨b,rfl,q⟩;exact bN.mpr ⟨b,_,rfl,q,wg ks⟩
theorem Dd{K:ai}{G:Hp}{aY:LL}{vs:List V}(r:bD K G (aY.map tupK) vs):aY.length=vs.length/\∀(i:Nat) v,vs[i]?=some v->∃b,v=.ref b/\UG K G b (aY.getD i []):=by
 refine⟨by have:=r.length;simpa using this,fun i v hv=>?_⟩;obtain⟨d,h1,h2⟩:=r.get' hv;rw[di]at h1;cases e:aY[i]? with
 |none=>rw[e]at h1;cases h1
 |some ks =>
  rw[e]at h1;cases h1;obtain⟨b,q1,q2⟩:=Ja.mp h2;exact⟨b,q1,by rw[gx,e];exact q2⟩
theorem sH{K:ai}{G:Hp}:∀{aY:LL}{vs:List V},vs.length=aY.length->(∀(i:Nat) v,vs[i]?=some v->∃b,v=.ref b/\UG K G b (aY.getD i []))->bD K G (aY.map tupK) vs
 | [],vs,h,_=>bA.mpr (mM.mp h)
 |k::aY,[],h,_=>by cases h
 |k::aY,v::vs,h,a=>by refine aV.mpr ⟨v,vs,rfl,Ja.mpr (a 0 v rfl),sH (by simpa using h) fun i u hu=>?_⟩;exact a (i + 1) u hu
noncomputable def Wm(P:aS)(w:az)(K:ai)(W:Wi)(σ:St)(G H:Hp)(r:Rs LL)(Q:VK):Prop :=
 match r with
 | .ok aY=>∀a H' G',Ext G H G' H'->H a=none->H' a=some (.ext (aaK P w (UG K G') a aY))->Q (.ref a) H'
 | .ex c n=>∀H' G',Ext G H G' H'->W c n σ H'
 | .no=>False
noncomputable def tK(P:aS)(w:az)(K:ai)(B:Bs)(W:Wi)(f:aD->Rs LL):TE:=fun σ H Q=>∃ρ G,SR K B σ H ρ G/\Wm P w K W σ G H (f ρ) Q
noncomputable def SK(X:Cx)(B:Bs)(W:Wi)(e:ag)(f:aD->Rs LL):Prop:=PE X e (tK X.prog X.w X.K B W f)
noncomputable def Fy:D->Rs LL
 | .lst ds=>match jA ds with|some aY=>if (bT aY).length < 4900 then .ok aY else .no|none=>.no
 | .tup ds=>match jA ds with|some aY=>if (bT aY).length < 4900 then .ok aY else .no|none=>.no
 |_=>.no
noncomputable def fK(f:aD->Rs D):aD->Rs LL:=fun ρ=>(f ρ).bind fun d=>(Fy d).bind fun aY=>.ok (bT aY)
theorem aaM{G H:Hp}(gh:Same G H)(tp:∀a xs,H a=some (.tup xs)->G a=some (.tup xs)){p:ae}{φ:aE->Prop}(hp:H p=none):Ext G H G (upd H p (.ext φ)) where
 gg:=.refl _
 hh:=fun b o e=>by rw[aW (aR e hp)];exact e
 gh:=fun b o e=>by rw[aW (aR (gh _ _ e) hp)];exact gh _ _ e
 tp:=fun b ys e=>by
  by_cases q:b=p
  ·subst q;rw[aZ]at e;cases e
  ·rw[aW q]at e;exact tp _ _ e
 nw:=fun b o e n=>n
theorem aeu{e:ag}{p pos:Pos}{f:aD->Rs D}(hc:X.calm=true) (hu:X.A.units + 8 < bu) (hm:X.mg "set"=none) (he:SE X B W e f) (hg:Gl X "set":=by rfl) (hst:bb [e] X.env=[(false,bj e X.env)]:=by rfl) :
  SK X B W (.Call (.Name "set" p) [e] [] pos) (fK f):=by
 refine PE.imp (Cq (Rm hc hu) hg hm PyProof.Rows.boot_set (gj he lF hst) (by decide) (by decide) hst rfl) fun σ H Q h=>?_;obtain⟨ρ,G,s,p⟩:=h;refine⟨ρ,G,s,?_⟩;unfold fK at p;cases e1:f ρ with
 |ok d =>
  rw[e1]at p;have p':Wm X.prog X.w X.K W σ G H ((Fy d).bind fun aY=>.ok (bT aY)) Q:=p;intro v H' G' x r;have fQ:∀(a:ae) (vs:List V) (aY:LL),v=.ref a->(qp X.K H' a vs∨mX X.K H' a vs)->bD X.K G' (aY.map tupK) vs->(bT aY).length < 4900->Wm X.prog X.w X.K W σ G H (.ok (bT aY)) Q->acg X.prog X.w X.K [v] H' Q:=by
   intro a vs aY ea hs rr hz pp;obtain⟨hl,hk⟩:=Dd rr;refine⟨a,vs,aY,UG X.K G',by rw[ea],hs,hl,hz,fun i u hu'=>?_,fun l hl'=>?_⟩
   ·obtain⟨b,q1,q2⟩:=hk i u hu';exact⟨b,q1,Same.iy x.gh q2,q2⟩
   ·exact pp l _ G' (x.trans (aaM x.gh x.tp hl')) (by cases e:H l with|none=>rfl|some o=>have:=x.hh _ _ e;rw[hl']at this;cases this) aZ
  unfold Fy at p';split at p'
  ·rename_i ds;split at p'
   ·rename_i aY ek;by_cases hz:(bT aY).length < 4900
    ·rw[if_pos hz]at p';obtain⟨a,vs,rfl,q,rr⟩:=bJ.mp r;have hl:=rr.length;rw[vp ek]at rr;exact fQ a vs aY rfl (.inl (x.gh.seq q)) rr hz p'
    ·rw[if_neg hz]at p';exact p'.elim
   ·exact p'.elim
  ·rename_i ds;split at p'
   ·rename_i aY ek;by_cases hz:(bT aY).length < 4900
    ·rw[if_pos hz]at p';obtain⟨a,vs,rfl,q,rr⟩:=bN.mp r;have hl:=rr.length;rw[vp ek]at rr;exact fQ a vs aY rfl (.inr (Same.iy x.gh q)) rr hz p'
    ·rw[if_neg hz]at p';exact p'.elim
   ·exact p'.elim
  ·exact p'.elim
 |ex c n=>rw[e1]at p;exact p
 |no=>rw[e1]at p;exact p
instance (aY:LL):Decidable (∀ks∈aY,ks≠[]):=inferInstance
noncomputable def Fz:LL->Rs D:=fun aY=>if (∀ks∈aY,ks≠[])/\aY.length < 4900 then .ok (.lst ((bO aY).map tupK)) else .no
noncomputable def zM(f:aD->Rs LL):aD->Rs D:=fun ρ=>(f ρ).bind Fz
theorem Lk{e:ag}{p pos:Pos}{f:aD->Rs LL}(hc:X.calm=true) (hm:X.mg "sorted"=none) (he:SK X B W e f) (hg:Gl X "sorted":=by rfl) (hst:bb [e] X.env=[(false,bj e X.env)]:=by rfl) :
  SE X B W (.Call (.Name "sorted" p) [e] [] pos) (zM f):=by
 refine PE.imp (qF (Fx hc) hg hm v_ (gj he lF hst) (by decide) (by decide) hst rfl) fun σ H Q h=>?_;obtain⟨ρ,G,s,p⟩:=h;refine⟨ρ,G,s,?_⟩;unfold zM at p;cases e1:f ρ with
 |ok aY =>
  rw[e1]at p;intro a H' G' x _ ha;have p':Post X.K W σ G H (Fz aY) Q:=p;unfold Fz at p';by_cases hc':(∀ks∈aY,ks≠[])/\aY.length < 4900
  ·rw[if_pos hc']at p';refine⟨a,aY,UG X.K G',rfl,ha,fun b ks hb=>Same.iy x.gh hb,hc'.1,hc'.2,fun l ys hl hy hv=>?_⟩;have x2:=pB (xs:=ys) x.gh x.tp hl;refine p' _ _ _ (x.trans x2) (bJ.mpr ⟨l,ys,rfl,.of aZ,?_⟩);exact(sH hy hv).mono x2.gg
  ·rw[if_neg hc']at p';exact p'.elim
 |ex c n=>rw[e1]at p;exact p
 |no=>rw[e1]at p;exact p
end
section
variable{X:Cx}{B:Bs}{W:Wi}
noncomputable def COr(a b:LL):Prop:=a.length + b.length < 900
noncomputable def agT(a b:LL):Prop:=a.length < 900/\b.length < 900
noncomputable def agU(a b:LL):Prop:=a.length < 900/\b.length < 900/\(b=[]∨¬a.length / 4 > b.length)
instance (a b:LL):Decidable (COr a b):=by unfold COr;exact inferInstance
instance (a b:LL):Decidable (agT a b):=by unfold agT;exact inferInstance
instance (a b:LL):Decidable (agU a b):=by unfold agU;exact inferInstance
end
end Vl
namespace Vl
open PySem PySem.Spec L2
noncomputable def Bw(i:Nat)(fs:aD->Rs (List D)):aD->Ou:=fun ρ=>oR (fs ρ) ρ fun ds=>if ds.length<=1000 then .nx (ρ.set i (.ow ds)) else .no
noncomputable def wL(i:Nat)(f:aD->Rs D):aD->Ou:=fun ρ=>match ρ[i]? with|some (.ow ds)=>oR (f ρ) ρ fun d=>if ds.length < 1000000 then .nx (ρ.set i (.ow (ds++[d]))) else .no|_=>.no
noncomputable def FJ(i:Nat)(g:aD->Ou):aD->Ou:=fun ρ=>g (Cd i ρ)
section
variable{X:Cx}{K:ai}{B:Bs}{W:Wi}{σ:St}{G H:Hp}{ρ:aD}
theorem wM(i:Nat){x:Str}{es:List ag}{pos pos' lp:Pos}{f:aD->Rs (List D)}(hN:X.N.Nodup)(he:SA X B W es f)(hi:X.N[i]?=some x:=by rfl)(hx:Kg X.env.scope x:=by first|exact Or.inl rfl|exact Or.inr rfl)(hs:dS (.List es lp) (some (.Name x pos')) pos.line X.env=pure false:=by rfl)(hf:X.fn x=true∨X.env.scope.names.lookup x=some .local:=by first|exact .inl rfl|exact .inr rfl|assumption) :
  SS X B W (.Assign [.Name x pos'] (.List es lp) pos) (Bw i f):=adO hN hi hx he hs hf
theorem zN(i:Nat){x:Str}{e:ag}{pos p1 p2 cp:Pos}{f:aD->Rs D}(he:SE X B W e f)(hN:X.N[i]?=some x:=by rfl)(hv:Gz X.env.scope x:=by first|exact Or.inl rfl|exact Or.inr (Or.inl rfl)|exact Or.inr (Or.inr rfl))(hd:qx x:=by decide)
  (hcd:GP x:=by decide) (hst:bb [e] X.env=[(false,bj e X.env)]:=by rfl)
  (hbase:kM (.Name x p1) "append" X.env (bj (.Name x p1) X.env)=bj (.Name x p1) X.env:=by rfl)
  (hfew:((cS cp (bb [e] X.env)).all (fun x=>!x.1) && (kN cp (kP [] X.env)).all (fun x=>x.1.isSome)
   && decide (([e]:List ag).length + ([]:List fE).length + (if ([]:List fE).isEmpty then 0 else 1) < 30))=true:=by rfl)
  (hline:(p2.endLine == cp.line)=true:=by rfl) (hplain:(cS cp (bb [] X.env)).any (·.1)=false:=by rfl)
  (hs:dS (.Call (.Attribute (.Name x p1) "append" p2) [e] [] cp) none pos.line X.env=pure false:=by rfl) :
  SS X B W (.Expr (.Call (.Attribute (.Name x p1) "append" p2) [e] [] cp) pos) (wL i f) :=
 QL (pe:=Tt wa PySem.F.slot_list_append PySem.F.type_list_append vZ (iw hN hv hd hcd) (gj he lF hst) hbase hfew hline hst hplain) (iw hN hv hd hcd) he hst hs
theorem zO(i:Nat){st:List bg}{g:aD->Ou}(h:xq X B W st g):xq X B W st (FJ i g):=aag i h
theorem vq{e:ag}{p pos:Pos}{fa:aD->Rs D}(hm:X.mg "tuple"=none) (ha:SE X B W e fa) (hg:Gl X "tuple":=by rfl) (he:bb [e] X.env=[(false,bj e X.env)]:=by rfl):SE X B W (.Call (.Name "tuple" p) [e] [] pos) (fA (aj fa aK) nG) :=
 Cu Bj Uj hg hm PyProof.Rows.boot_tuple (ak ha aH he) (by decide) (by decide) he rfl
noncomputable def Wn:List D->Rs D
 | [.lst ds]=>.ok (.lst ds)
 | [.tup ds]=>.ok (.lst ds)
 |_=>.no
noncomputable def Jb:List D->Rs D
 | [.int i]=>.ok (.int i)
 | [.bl b]=>.ok (.int (if b then 1 else 0))
 |_=>.no
theorem aev:tL K (fun xs H Q=>(∃i,xs=[.int i]/\Q (.int i) H)∨∃k,xs=[.bl k]/\Q (.int (if k then 1 else 0)) H) Jb:=by
 intro B W σ ρ G H ds vs Q s r p;unfold Jb at p;split at p
 ·obtain⟨v,vs',rfl,r1,r2⟩:=aV.mp r;rw[bA.mp r2,aX.mp r1];exact .inl ⟨_,rfl,Post.ok s p (aX.mpr rfl)⟩
 ·obtain⟨v,vs',rfl,r1,r2⟩:=aV.mp r;rw[bA.mp r2,cZ.mp r1];exact .inr ⟨_,rfl,Post.ok s p (aX.mpr rfl)⟩
 ·exact p.elim
theorem aew{e:ag}{p pos:Pos}{fa:aD->Rs D}(hm:X.mg "int"=none) (ha:SE X B W e fa) (hg:Gl X "int":=by rfl) (he:bb [e] X.env=[(false,bj e X.env)]:=by rfl):SE X B W (.Call (.Name "int" p) [e] [] pos) (fA (aj fa aK) Jb) :=
 Cu QD aev hg hm PyProof.Rows.Boot.«int» (ak ha aH he) (by decide) (by decide) he rfl
noncomputable def vA:D->Bool
 | .non=>true
 |_=>false
noncomputable def ajd:D->D->Rs D:=fun x y=>match y with|.non=>.ok (.bl (vA x))|_=>.no
noncomputable def agV:D->D->Rs D:=fun x y=>match y with|.non=>.ok (.bl (!vA x))|_=>.no
variable{a b:ag}{pos:Pos}{fa fb:aD->Rs D}
noncomputable def RZ(x:D)(ds:List D):Bool:=ds.any fun d=>oF d x
noncomputable def aex(K:ai)(neg:Bool):R2:=fun x y H Q=>∃d p ys ds,y=.ref p/\(qp K H p ys∨mX K H p ys)/\Rep K H d x/\bD K H ds ys/\gP d<=7/\gw ds<=7/\Q (.bl (if neg then !RZ d ds else RZ d ds)) H
open Classical in
theorem Pu{pins:List (ae×Obj)}{s:af}{A:ba}{x:V}{v:aa}{d:D}(I:Inv X pins σ H s)(hu:A.units + 7 < bu)(rx:RelV x v)(rd:Rep X.K H d x)(hd:gP d<=7):∀{ds:List D}{ys:List V}{its:List aa},Vals ys its->bD X.K H ds ys->gw ds<=7 ->
  ∃f:aa->Bool,(∀u∈its,lS A s u v (f u))/\its.any f=RZ d ds:=by
 intro ds ys its rv rr hds;refine⟨fun u=>if h:∃d' v',Rep X.K H d' v'/\RelV v' u/\gP d'<=7 then oF (choose h) d else false,fun u hu'=>?_,?_⟩
 ·obtain⟨i,hi⟩:=jn.mp hu';obtain⟨y,h1,h2⟩:=Vals.get' rv hi;obtain⟨d',h3,h4⟩:=rr.get' h1;have hx:∃d' v',Rep X.K H d' v'/\RelV v' u/\gP d'<=7:=⟨d',y,h4,h2,cx (uT (i7 h3)) hds⟩
  dsimp only;rw[dif_pos hx];obtain⟨v',q1,q2,q3⟩:=choose_spec hx;exact TY I 7 q3 hd (by lia) q1 rd q2 rx
 ·unfold RZ
  induction ds generalizing ys its with
  |nil =>
   cases bA.mp rr;cases rv;rfl
  |cons d0 ds ih =>
   obtain⟨y,ys',rfl,r1,r2⟩:=aV.mp rr;cases rv with
   | @cons _ u _ us r3 r4 =>
    rw[rn,rn,ih r4 r2 (cx (by simp only[gw];exact td _ _) hds)];congr 1;have hd0:gP d0<=7:=cx (uT (eR)) hds;have hx:∃d' v',Rep X.K H d' v'/\RelV v' u/\gP d'<=7:=⟨d0,y,r1,r3,hd0⟩
    rw[dif_pos hx];obtain⟨v',q1,q2,q3⟩:=choose_spec hx;have:v'=y:=by have z1:=Vals.inj (xs:=[v']) (ys:=[y]) (us:=[u]) (.cons q2 .nil) (.cons r3 .nil);exact(List.cons.inj z1).1
    subst this;rw[Rep.inj I (by lia) q1 r1]
theorem Wo(hu:X.A.units + 8 < bu):rP X (fy .In) (aex X.K false):=by
 intro pins s σ H x y v u Q I rx ry h;obtain⟨d,p,ys,ds,rfl,hq,rd,rr,hd,hds,q⟩:=h;cases ry;rcases hq with hq|hq
 ·obtain⟨its,r,pl,hz⟩:=I.list hq;obtain⟨f,h1,h2⟩:=Pu (A:=X.A.in1) I (by show X.A.units + 1 + 7 < bu;lia) rx rd hd r rr hds;refine SeqAt.in_listAt f pl.isList (fun w hw=>h1 w (by simpa using hw)) ⟨.bl _,H,I,rfl,?_⟩;rw[show its.toArray.any f=its.any f by simp,h2];exact q
 ·obtain⟨its,r,pl,hz⟩:=I.tuple hq;obtain⟨f,h1,h2⟩:=Pu (A:=X.A.in1) I (by show X.A.units + 1 + 7 < bu;lia) rx rd hd r rr hds;refine SeqAt.in_tupleAt f pl (fun w hw=>h1 w (by simpa using hw)) ⟨.bl _,H,I,rfl,?_⟩;rw[show its.toArray.any f=its.any f by simp,h2];exact q
theorem Rp(hu:X.A.units + 8 < bu):rP X (fy .NotIn) (aex X.K true):=by
 intro pins s σ H x y v u Q I rx ry h;obtain⟨d,p,ys,ds,rfl,hq,rd,rr,hd,hds,q⟩:=h;cases ry;rcases hq with hq|hq
 ·obtain⟨its,r,pl,hz⟩:=I.list hq;obtain⟨f,h1,h2⟩:=Pu (A:=X.A.in1) I (by show X.A.units + 1 + 7 < bu;lia) rx rd hd r rr hds;refine SeqAt.notIn_listAt f pl.isList (fun w hw=>h1 w (by simpa using hw)) ⟨.bl _,H,I,rfl,?_⟩;rw[show its.toArray.any f=its.any f by simp,h2];exact q
 ·obtain⟨its,r,pl,hz⟩:=I.tuple hq;obtain⟨f,h1,h2⟩:=Pu (A:=X.A.in1) I (by show X.A.units + 1 + 7 < bu;lia) rx rd hd r rr hds;refine SeqAt.notIn_tupleAt f pl (fun w hw=>h1 w (by simpa using hw)) ⟨.bl _,H,I,rfl,?_⟩;rw[show its.toArray.any f=its.any f by simp,h2];exact q
noncomputable def Bx(neg:Bool):D->D->Rs D:=fun x y=>match y with
 | .lst ds=>if gP x<=7/\gw ds<=7 then .ok (.bl (if neg then !RZ x ds else RZ x ds)) else .no
 | .tup ds=>if gP x<=7/\gw ds<=7 then .ok (.bl (if neg then !RZ x ds else RZ x ds)) else .no
 |_=>.no
noncomputable abbrev Zg:=Bx false
noncomputable abbrev Ln:=Bx true
theorem Lp{neg:Bool}:RT K (aex K neg) (Bx neg):=by
 intro B W σ ρ G H x y v u Q s rx ry p;unfold Bx at p;split at p
 ·rename_i ds;split at p
  ·rename_i hc;obtain⟨a,vs,rfl,q,rr⟩:=bJ.mp ry;exact⟨x,a,vs,ds,rfl,.inl (s.en.gh.seq q),rx.mono s.en.gh,rr.mono s.en.gh,hc.1,hc.2,Post.ok s p (cZ.mpr rfl)⟩
  ·exact p.elim
 ·rename_i ds;split at p
  ·rename_i hc;obtain⟨a,vs,rfl,q,rr⟩:=bN.mp ry;exact⟨x,a,vs,ds,rfl,.inr (Same.iy s.en.gh q),rx.mono s.en.gh,rr.mono s.en.gh,hc.1,hc.2,Post.ok s p (cZ.mpr rfl)⟩
  ·exact p.elim
 ·exact p.elim
theorem ach(hu:X.A.units + 8 < bu)(ha:SE X B W a fa)(hb:SE X B W b fb)(hm:gp .In b=false:=by rfl):SE X B W (.Compare a [.In] [b] pos) (aQ Zg fa fb):=Ef (Wo hu) Lp ha hb hm
theorem aci(hu:X.A.units + 8 < bu)(ha:SE X B W a fa)(hb:SE X B W b fb)(hm:gp .In b=false:=by rfl):ST X B W (.Compare a [.In] [b] pos) (fT (aQ Zg fa fb)):=tZ (Wo hu) Lp ha hb hm
theorem Wq(hu:X.A.units + 8 < bu)(ha:SE X B W a fa)(hb:SE X B W b fb)(hm:gp .NotIn b=false:=by rfl):ST X B W (.Compare a [.NotIn] [b] pos) (fT (aQ Ln fa fb)):=tZ (Rp hu) Lp ha hb hm
end
end Vl
namespace Vl
open PySem PySem.Spec L2 So Tb
section
variable{X:Cx}{B:Bs}{W:Wi}{K:ai}
noncomputable def Wr(K:ai):List V->Hp->VK->Prop:=fun xs H Q=>∃(p:ae) (ys:List V) (aY:LL) (U:ae->List Int->Prop),xs=[.ref p]/\qp K H p ys/\aY.length=ys.length/\ys.length < 4900/\(∀ks∈aY,ks≠[]) /\
 (∀(i:Nat) v,ys[i]?=some v->∃b,v=.ref b/\mX K H b ((aY.getD i []).map V.int)/\U b (aY.getD i [])) /\
 ∀l zs,H l=none->zs.length=(bO aY).length->(∀(i:Nat) v,zs[i]?=some v->∃b,v=.ref b/\U b ((bO aY).getD i []))->Q (.ref l) (upd H l (.lst zs))
theorem Ws{U:ae->List Int->Prop}{out:List aa}{aY:LL}(ho:Pq U out aY):∃ys:List V,Vals ys out/\ys.length=aY.length/\∀(i:Nat) v,ys[i]?=some v->∃b,v=.ref b/\U b (aY.getD i []):=by
 refine⟨out.map fun v=>match v with|.ref b=>V.ref b|_=>V.non,?_,by simp[ho.1],fun i v hv=>?_⟩
 ·have:∀v∈out,∃b,v=aa.ref b:=fun v hv=>by obtain⟨i,hi⟩:=jn.mp hv;obtain⟨b,e,_⟩:=ho.2 i v hi;exact⟨b,e⟩
  clear ho
  induction out with
  |nil=>exact .nil
  |cons a out ih =>
   obtain⟨b,rfl⟩:=this a (.head _);exact .cons rfl (ih fun v hv=>this v (.tail _ hv))
 ·rw[di]at hv;cases e:out[i]? with
  |none=>rw[e]at hv;cases hv
  |some v' =>
   rw[e]at hv;obtain⟨b,rfl,h2⟩:=ho.2 i v' e;exact⟨b,(et hv).symm,h2⟩
theorem Lq:gZ X (.builtin "sorted") (Wr X.K):=by
 intro pins s σ H xs us Q I r h;obtain⟨p,ys,aY,U,rfl,hs,hlen,hz,hne,hk,q⟩:=h;obtain⟨u,rfl,rx⟩:=r.one;cases rx;obtain⟨its,rv,pl,_⟩:=I.list hs;have hl:=rv.length;have each:∀(i:Nat) v,its[i]?=some v->∃b,v=.ref b/\da (cq X.prog X.w) s.heap (aY.getD i []) b/\U b (aY.getD i []):=fun i v hv=>by obtain⟨x,h1,h2⟩:=Vals.get' rv hv;obtain⟨b,rfl,h3,h4⟩:=hk i x h1;exact⟨b,h2,Fw I h3,h4⟩
 refine So.wK (vs:=its) (aY:=aY) (fun Q' E' hq=>?_) ⟨by lia,fun i v hv=>let ⟨b,h1,h2,_⟩:=each i v hv;⟨b,h1,h2⟩⟩ hne (by lia) fun h' tk l n p' k hl' hsp hg=>?_
 ·refine PyProof.Rows.collect_list pl.isList ?_ (by rw[d8];lia);refine hq _ s.toks (fun b o e=>?_) ?_
  ·rw[lz _ _ _ _ (cv (bP e))];exact cy _ e
  ·rw[rj,PyProof.Rows.size_push'];exact oQ _
 ·have ho:=uw (U:=U) (vs:=its) (aY:=aY) (Fv:=aY) ⟨by lia,fun i v hv=>let ⟨b,h1,_,h3⟩:=each i v hv;⟨b,h1,h3⟩⟩ hsp (.refl _);obtain⟨zs,r1,zl,zv⟩:=Ws ho;have hln:H l=none:=I.hok.fresh hl';refine⟨.ref l,_,I.laid (t':=tk) k hl' (show gq X.prog X.w _ h' _ (.lst zs) from⟨?_,_,n,r1,hg⟩),rfl,q l zs hln zl zv⟩;have:(bO aY).length=aY.length:=(fH aY).length_eq;rw[zl,this,d8];lia
noncomputable def Lr(x:Int):List Int->List Int
 | []=>[x]
 |y::ys=>if y < x then y::Lr x ys else x::y::ys
noncomputable def vB(l:List Int):List Int:=l.foldr Lr []
theorem wN(x:Int):∀l,(Lr x l).Perm (x::l)
 | []=>.refl _
 |y::ys=>by
  unfold Lr;split
  ·exact((wN x ys).cons y).trans (h_.swap x y ys)
  ·exact .refl _
theorem ux:∀l,(vB l).Perm l
 | []=>.refl _
 |x::l=>(wN x (vB l)).trans ((ux l).cons x)
theorem Py(x:Int):∀l,l.Pairwise (·<=·)->(Lr x l).Pairwise (·<=·)
 | [],_=>by simp[Lr]
 |y::ys,h=>by
  obtain⟨h1,h2⟩:=f7.mp h;unfold Lr;split
  ·rename_i c;refine f7.mpr ⟨fun z hz=>?_,Py x ys h2⟩;rcases cm.mp ((wN x ys).mem_iff.mp hz) with rfl|hz
   ·lia
   ·exact h1 z hz
  ·rename_i c;refine f7.mpr ⟨fun z hz=>?_,h⟩;rcases cm.mp hz with rfl|hz
   ·lia
   ·have:=h1 z hz;lia
theorem Jc:∀l,(vB l).Pairwise (·<=·)
 | []=>.nil
 |x::l=>Py x _ (Jc l)
theorem zP:∀{l l':List Int},l.Perm l'->l.Pairwise (·<=·)->l'.Pairwise (·<=·)->l=l'
 | [],l',p,_,_=>(List.nil_perm.mp p).symm
 |x::l,[],p,_,_=>by cases List.perm_nil.mp p
 |x::l,y::l',p,h,h'=>by
  obtain⟨h1,h2⟩:=f7.mp h;obtain⟨h1',h2'⟩:=f7.mp h';have e:x=y:=by
   have m1:=cm.mp (p.mem_iff.mp (eR (a:=x) (l:=l)));have m2:=cm.mp (p.mem_iff.mpr (eR (a:=y) (l:=l')));rcases m1 with m1|m1
   ·exact m1
   ·rcases m2 with m2|m2
    ·exact m2.symm
    ·have:=h1' x m1;have:=h1 y m2;lia
  subst e;rw[zP (p.cons_inv) h2 h2']
theorem Wt{l l':List Int}(p:l.Perm l')(h:l.Pairwise (·<=·)):l=vB l':=zP (p.trans (ux l').symm) h (Jc l')
theorem rQ:∀{us:List aa}{ns:List Int},PyProof.Rows.IntsAre us ns->Vals (ns.map V.int) us:=by
 intro us ns h
 induction h with
 |nil=>exact .nil
 |cons n t _ ih=>exact .cons ⟨t,rfl⟩ ih
noncomputable def Wu(K:ai):List V->Hp->VK->Prop:=fun xs H Q=>∃(p:ae) (ns:List Int),xs=[.ref p]/\qp K H p (ns.map V.int)/\ns.length < 64/\∀l,H l=none->Q (.ref l) (upd H l (.lst ((vB ns).map V.int)))
theorem Ls:gZ X (.builtin "sorted") (Wu X.K):=by
 intro pins s σ H xs us Q I r h;obtain⟨p,ns,rfl,hs,hz,q⟩:=h;obtain⟨u,rfl,rx⟩:=r.one;cases rx;obtain⟨its,rv,pl,_⟩:=I.list hs;have hl:=rv.length;simp only[cn]at hl;refine PyProof.Rows.sorted_ints pl.isList (Kr rv) (by lia) fun out ns' h1 h2 h3=>?_;have e:ns'=vB ns:=Wt h2 h3;subst e;have hsz:((s.heap.push (ky "list" #[] 0)).update s.heap.objs.size (eA (·++its.toArray))).objs.size=s.heap.objs.size + 1:=by rw[rj,PyProof.Rows.size_push']
 have hoL:(((s.heap.push (ky "list" #[] 0)).update s.heap.objs.size (eA (·++its.toArray))).push (ky "list" its.toArray 0)).get? (s.heap.objs.size + 1)=some (ky "list" its.toArray 0):=by rw[<- hsz];exact dA _ rfl
 have keep:∀b o,s.heap.get? b=some o->(((s.heap.push (ky "list" #[] 0)).update s.heap.objs.size (eA (·++its.toArray))).push (ky "list" its.toArray 0)).get? b=some o:=fun b o q=>by refine cy _ ?_;rw[lz _ _ _ _ (cv (bP q))];exact cy _ q
 have g0:=cy (ky "list" #[] 0) (cy (ky "tuple" its.toArray 0) (PyProof.Rows.get?_update_seq hoL (fun _=>#[])));have g1:=PyProof.Rows.get?_update_seq g0 (fun _=>out);have hln:H (s.heap.objs.size + 1)=none:=I.hok.fresh (oQ _);refine⟨.ref (s.heap.objs.size + 1),_,I.laid (t':=s.toks) (fun b o z=>?_) (oQ _) (show gq X.prog X.w _ _ _ (.lst ((vB ns).map V.int)) from⟨?_,out.toList,_,rQ h1,by rw[Array.toArray_toList];exact g1⟩),rfl,q _ hln⟩
 ·unfold PyProof.Rows.sortedAll PyProof.Rows.sortedHeap;have ne:b≠s.heap.objs.size + 1:=cv (j9 (bP z));rw[lz _ _ _ _ ne];refine cy _ (cy _ ?_);rw[lz _ _ _ _ ne];exact keep b o z
 ·rw[cn,(ux ns).length_eq,d8];lia
noncomputable def nP:List D->Rs D
 | [.lst ds]=>match jA ds with
  |some aY=>if (∀ks∈aY,ks≠[])/\aY.length < 4900 then .ok (.lst ((bO aY).map tupK)) else .no
  |none=>match jz ds with
   |some ns=>if ns.length < 64 then .ok (.lst ((vB ns).map .int)) else .no
   |none=>.no
 |_=>.no
theorem Wv:tL K (fun xs H Q=>Wr K xs H Q∨Wu K xs H Q) nP:=by
 intro B W σ ρ G H ds vs Q s r p;unfold nP at p;split at p
 ·rename_i ds;obtain⟨v,vs',rfl,r1,r2⟩:=aV.mp r;obtain⟨a,us,rfl,q,rr⟩:=bJ.mp r1;rw[bA.mp r2];split at p
  ·rename_i aY ek;split at p
   ·rename_i hc;rw[vp ek]at rr;obtain⟨hl,hk⟩:=Dd rr;refine .inl ⟨a,us,aY,UG K G,rfl,s.en.gh.seq q,hl,by lia,hc.1,fun i v hv=>?_,fun l zs hl' hz hv=>?_⟩
    ·obtain⟨b,q1,q2⟩:=hk i v hv;exact⟨b,q1,Same.iy s.en.gh q2,q2⟩
    ·have x:=pB (xs:=zs) s.en.gh s.en.tp hl';exact p _ _ _ x (bJ.mpr ⟨l,zs,rfl,.of aZ,(sH hz hv).mono x.gg⟩)
   ·exact p.elim
  ·split at p
   ·rename_i ns ei;split at p
    ·rename_i hc;rw[zL ei]at rr;have eu:=pK rr;subst eu;refine .inr ⟨a,ns,rfl,s.en.gh.seq q,hc,fun l hl=>?_⟩;have x:=pB (xs:=(vB ns).map V.int) s.en.gh s.en.tp hl;exact p _ _ _ x (bJ.mpr ⟨l,_,rfl,.of aZ,wg _⟩)
    ·exact p.elim
   ·exact p.elim
 ·exact p.elim
theorem gZ.or{f:aa}{r r':List V->Hp->VK->Prop}(h:gZ X f r)(h':gZ X f r'):gZ X f (fun xs H Q=>r xs H Q∨r' xs H Q):=fun pins s σ H xs us Q I rv q=>q.elim (h pins s σ H xs us Q I rv) (h' pins s σ H xs us Q I rv)
theorem zQ{e:ag}{p pos:Pos}{fa:aD->Rs D}(hm:X.mg "sorted"=none) (ha:SE X B W e fa) (hg:Gl X "sorted":=by rfl) (he:bb [e] X.env=[(false,bj e X.env)]:=by rfl):SE X B W (.Call (.Name "sorted" p) [e] [] pos) (fA (aj fa aK) nP) :=
 qH (gZ.or Lq Ls) Wv hg hm v_ (ak ha aH he) (by decide) (by decide) he rfl
end
end Vl
namespace Vl
open PySem PySem.Spec L2
section
variable{X:Cx}{B:Bs}{W:Wi}{K:ai}
end
theorem Df(i:Nat){X:Cx}{B:Bs}{W:Wi}{y:Str}{py spos:Pos}{tg iter:ag}{elt RW:ag}{sc:Scope}{pos:Pos}{N:List Str}{nt:Nat}{caps:List Nat}{h:Tg}{ft:aD->Rs Bool}{fe:aD->Rs D}{fi:aD->Rs (List D)}(hN:X.N.Nodup)
  (c:ug X sc N nt caps) (hc:X.calm=true) (hnames:sc.names.all (fun y=>y.2 != .local || sc.names.lookup y.1 == some .local)=true) (hi:SI X B W tg iter fi) (hno:nH h)
  (ht:∀s₀ H₀ C ex pins B',SG (dg X N s₀ H₀ sc (eV sc X.env) C ex pins) B' tg h)
  (hif:∀s₀ H₀ C ex pins B',ST (dg X N s₀ H₀ sc (eV sc X.env) C ex pins) B' WF RW ft)
  (he:∀s₀ H₀ C ex pins B',SE (dg X N s₀ H₀ sc (eV sc X.env) C ex pins) B' WF elt fe)
  (hs:∀x,fN iter X.env x=pure x:=by intro _;rfl) (hi':X.N[i]?=some y:=by rfl) (hx:Kg X.env.scope y:=by first|exact Or.inl rfl|exact Or.inr rfl)
  (hsw:dS (.ListComp elt [⟨tg,iter,[RW],0⟩] sc pos) (some (.Name y py)) spos.line X.env=pure true:=by rfl)
  (hf:X.fn y=true∨X.env.scope.names.lookup y=some .local:=by first|exact .inl rfl|exact .inr rfl|assumption) :
  SS X B W (.Assign [.Name y py] (.ListComp elt [⟨tg,iter,[RW],0⟩] sc pos) spos) (iB i (dW h ft fe nt caps fi)) :=
 KC hN hi' hx c hc (fun y hy hl=>by
  have:=ml.mp hnames y hy;simp only[j_,bne_iff_ne,beq_iff_eq,ne_eq]at this;exact this.elim (fun z=>absurd hl z) id) hi hno ht (.inr ⟨RW,rfl,hif⟩) he hs hsw hf
noncomputable def Dg:D->D->Rs D
 | .tup a,.tup b=>if a.length + b.length<=1000000 then .ok (.tup (a++b)) else .no
 |_,_=>.no
section
variable{X:Cx}{B:Bs}{W:Wi}{K:ai}{a b:ag}{pos:Pos}{fa fb:aD->Rs D}
noncomputable def Ww(K:ai):R2:=fun x y H Q=>∃a b ys,x=.ref a/\y=.ref b/\mX K H a []/\mX K H b ys/\Q (.ref b) H
open PyProof.Rows in
theorem Wx:rP X (fx .Add) (Ww X.K):=by
 intro pins s σ H x y v u Q I rx ry h;obtain⟨a,b,ys,rfl,rfl,ha,hb,q⟩:=h;cases rx;cases ry;obtain⟨its,r1,p1,_⟩:=I.tuple ha;obtain⟨its2,r2,p2,_⟩:=I.tuple hb;cases r1;obtain⟨⟨cls,dd,data,sl⟩,ho,hc,n,hd⟩:=id p1;obtain⟨⟨cls2,dd2,data2,sl2⟩,ho2,hc2,n2,hd2⟩:=id p2;simp only at hc hd hc2 hd2;subst hc hd hc2 hd2;exact pd ⟨_,ho,rfl⟩ ⟨_,ho2,rfl⟩ sL sM sN sP (sQ _ _)
  (tuple_addW0 a b _ its2.toArray n n2 dd dd2 sl sl2 rfl) ⟨ho,ho2,.ref b,H,I,rfl,q⟩
theorem Wy:RT K (fun x y H Q=>abL K x y H Q∨Ww K x y H Q) Dg:=by
 intro B W σ ρ G H x y v u Q s rx ry p;unfold Dg at p;split at p
 ·rename_i ds es;split at p
  ·rename_i hl;have ry':=ry;have rx':=rx;obtain⟨a,vs,rfl,q,r⟩:=bN.mp rx;obtain⟨b,us,rfl,q',r'⟩:=bN.mp ry;cases ds with
   |nil =>
    have:=bA.mp r;subst this;exact .inr ⟨a,b,us,rfl,rfl,Same.iy s.en.gh q,Same.iy s.en.gh q',Post.ok s p ry'⟩
   |cons d ds =>
    have h1:vs≠[]:=fun z=>by subst z;have:=r.length;simp at this
    refine .inl ⟨a,b,vs,us,rfl,rfl,Same.iy s.en.gh q,Same.iy s.en.gh q',h1,by rw[<- r.length,<- r'.length];exact sz6 hl,fun z=>?_,fun _ c hc=>?_⟩
    ·subst z;have:es=[]:=mM.mp (by have:=r'.length;simpa using this);subst this;rw[dP]at p;exact Post.ok s p rx'
    ·have x:=xZ (xs:=vs++us) s.en.gh s.en.tp hc;exact p _ _ _ x (bN.mpr ⟨c,vs++us,rfl,.of aZ,(r.append r').mono x.gg⟩)
  ·exact p.elim
 ·exact p.elim
theorem aaN(ha:SE X B W a fa)(hb:SE X B W b fb):SE X B W (.BinOp a .Add b pos) (aQ Dg fa fb):=uQ (ZC.or Wx) Wy ha hb
end
section
variable{X:Cx}{B:Bs}{W:Wi}
theorem yj{pins:List (ae×Obj)}{σ:St}{H:Hp}{s:af}{b:ae}{ks:List Int}(I:Inv X pins σ H s)(h:mX X.K H b (ks.map V.int)):da (cq X.prog X.w) s.heap ks b:=by
 obtain⟨its,r,⟨o,ho,hc,n,hd⟩,hz⟩:=I.tuple h;refine⟨o,its.toArray,n,ho,hc,hd,?_⟩;show ItemsAre _ ks its;clear hd h hz
 induction ks generalizing its with
 |nil=>cases r;exact .nil
 |cons k ks ih =>
  cases r with
  |cons r1 r2 =>
   obtain⟨t,rfl⟩:=r1;exact .cons (intKind_is X.prog X.w k t) (ih _ r2)
noncomputable abbrev DP(U:ae->List Int->Prop):=Paired (fun(p:List Int×V) (q:List Int×ae×aa)=>p.1=q.1/\U q.2.1 q.1/\RelV p.2 q.2.2)
theorem FN{pins:List (ae×Obj)}{σ:St}{H:Hp}{s:af}{d:ae}{U:ae->List Int->Prop}{bh:List (List Int×V)}(I:Inv X pins σ H s)(hd:NT H d U bh)(hU:∀b ks,U b ks->UG X.K H b ks) :
  ∃xs,s.heap.DictOfH (ng (cq X.prog X.w)) d xs/\(d == ik)=false/\DP U bh xs/\(xs.map (·.1)).Nodup:=by
 obtain⟨φ,hd,hφ⟩:=hd;obtain⟨o,es,ep,xs,h1,h2,h3,h4,h5,h6,h7⟩:=hφ _ (I.hok d _ hd).1;refine⟨xs,⟨o,es,ep,h1,h2,h3,h5,fun x hx=>?_,h6⟩,h4,h7,h6⟩;have:∀{bh:List (List Int×V)}{xs:List (List Int×ae×aa)},DP U bh xs->∀x∈xs,U x.2.1 x.1:=by
  intro bh xs r
  induction r with
  |nil=>intro x hx;cases hx
  |cons r1 _ ih =>
   intro x hx;rcases cm.mp hx with rfl|hx
   ·exact r1.2.1
   ·exact ih x hx
 exact yj I (hU _ _ (this h7 x hx))
noncomputable def sZ(bh:List (List Int×V))(ks:List Int):Option V:=(bh.find? fun p=>decide (p.1=ks)).map (·.2)
noncomputable def Lw(bh:List (List Int×V))(ks:List Int)(v:V):List (List Int×V):=if (sZ bh ks).isSome then bh.map (fun p=>if p.1=ks then (p.1,v) else p) else bh++[(ks,v)]
theorem vC{U:ae->List Int->Prop}{ks:List Int}:∀{bh:List (List Int×V)}{xs:List (List Int×ae×aa)},DP U bh xs->(sZ bh ks=none/\kz xs ks=none)∨∃v q,sZ bh ks=some v/\kz xs ks=some q/\RelV v q.2
 | [],_,.nil=>.inl ⟨rfl,rfl⟩
 |p::bh,q::xs,.cons r t=>by
  by_cases c:p.1=ks
  ·have c':q.1=ks:=r.1▸c;exact .inr ⟨p.2,q.2,by simp[sZ,jv,c],by simp[kz,jv,c'],r.2.2⟩
  ·have c':¬q.1=ks:=fun z=>c (r.1.trans z);have e1:sZ (p::bh) ks=sZ bh ks:=by simp[sZ,jv,c]
   have e2:kz (q::xs) ks=kz xs ks:=by simp[kz,jv,c']
   rw[e1,e2];exact vC t
theorem Paired.app{α β:Type}{F:α->β->Prop}:∀{l₁ l₁':List α}{l₂ l₂':List β},Paired F l₁ l₂->Paired F l₁' l₂'->Paired F (l₁++l₁') (l₂++l₂')
 |_,_,_,_,.nil,t'=>t'
 |_,_,_,_,.cons r t,t'=>.cons r (Paired.app t t')
theorem Wz{U:ae->List Int->Prop}{ks:List Int}{b:ae}{v:V}{u:aa}{bh:List (List Int×V)}{xs:List (List Int×ae×aa)}(r:DP U bh xs)(hb:U b ks)(rv:RelV v u):DP U (Lw bh ks v) (storedH xs ks b u):=by
 rcases vC (ks:=ks) r with ⟨e1,e2⟩|⟨v',q,e1,e2,_⟩
 ·unfold Lw storedH;rw[e1,e2];exact Paired.app r (.cons ⟨rfl,hb,rv⟩ .nil)
 ·unfold Lw storedH;rw[e1,e2];show DP U (bh.map _) (xs.map _);clear e1 e2
  induction r with
  |nil=>exact .nil
  |cons r1 _ ih =>
   refine .cons ?_ ih;rename_i p q' _ _ _;by_cases c:p.1=ks
   ·have c':q'.1=ks:=r1.1▸c;unfold putAt;dsimp only;rw[if_pos c,if_pos c'];exact⟨r1.1,r1.2.1,rv⟩
   ·have c':¬q'.1=ks:=fun z=>c (r1.1.trans z);unfold putAt;dsimp only;rw[if_neg c,if_neg c'];exact r1
noncomputable def WD(K:ai):R2:=fun x y H Q=>∃(b d:ae) (ks:List Int) (U:ae->List Int->Prop) (bh:List (List Int×V)),x=.ref b/\y=.ref d/\mX K H b (ks.map V.int)/\NT H d U bh/\(∀b ks,U b ks->UG K H b ks)/\Q (.bl (sZ bh ks).isSome) H
theorem Pz(hu:X.A.units + 1 < bu):rP X (fy .In) (WD X.K):=by
 intro pins s σ H x y v u Q I rx ry ⟨b,d,ks,U,bh,e1,e2,hb,hd,hU,q⟩;subst e1;subst e2;cases rx;cases ry;obtain⟨xs,hm,hs,hp,_⟩:=FN I hd hU;refine wpAny_in_heap (wb hu) (yj I hb) hs hm ⟨_,H,I.tok _,?_,q⟩;rcases vC (ks:=ks) hp with ⟨e1,e2⟩|⟨v',q',e1,e2,_⟩
 ·rw[e1,e2];rfl
 ·rw[e1,e2];rfl
theorem FP{U:ae->List Int->Prop}{P:aS}{w:az}{d:ae}{h':aE}{xs:List (List Int×ae×aa)}{bh:List (List Int×V)}{H:Hp}(hm:h'.DictOfH (ng (cq P w)) d xs)(hs:(d == ik)=false)(hp:DP U bh xs):gq P w H h' d (.ext (jr U d bh)):=by obtain⟨o,es,ep,h1,h2,h3,h4,h5,h6⟩:=hm;refine⟨⟨o,es,ep,xs,h1,h2,h3,hs,h4,h6,hp⟩,⟨o,h1⟩,?_⟩;rintro g1 g2 ⟨o,es,ep,xs,h1,h2,h3,hs,h4,h6,hp⟩ k;exact⟨o,es,ep,xs,k _ h1,h2,h3,hs,h4,h6,hp⟩
end
section
variable{X:Cx}{B:Bs}{W:Wi}
theorem jr.mono{U U':ae->List Int->Prop}{a:ae}{bh:List (List Int×V)}{xs:List (List Int×ae×aa)}(h:∀b ks,U b ks->U' b ks)(r:DP U bh xs):DP U' bh xs:=Paired.acG r fun p q z=>⟨z.1,h _ _ z.2.1,z.2.2⟩
noncomputable def agW(K:ai):Zt:=fun o i v H Q=>∃(b d:ae) (ks:List Int) (U U':ae->List Int->Prop) (bh:List (List Int×V)),o=.ref d/\i=.ref b/\mX K H b (ks.map V.int)/\H d=some (.ext (jr U d bh))/\(∀b ks,U b ks->U' b ks)/\(∀b ks,U' b ks->UG K H b ks)/\U' b ks/\bh.length<=1000000 /\
 Q (upd H d (.ext (jr U' d (Lw bh ks v))))
theorem aey(hu:X.A.units + 1 < bu):afQ X (agW X.K):=by
 intro pins s σ H o i v ov iv u Q I ro ri rv ⟨b,d,ks,U,U',bh,e1,e2,hb,hd,hm,hU,hk,hz,q⟩;subst e1;subst e2;cases ro;cases ri;obtain⟨xs,hx,hs,hp,_⟩:=FN I (Ho hd) fun b ks z=>hU b ks (hm b ks z);refine wpAny_setItem_heap (wb hu) (yj I hb) hx (fun h' hx' sb=>?_) (by rw[<- o6 hp];exact sz6 hz);refine⟨_,I.write (x:=d) (e:=d) (t':=_) (by rw[hd];trivial) (.inl rfl) (fun b' u' ne e=>?_) ?_ (FP hx' hs (Wz (jr.mono (a:=d) hm hp) hk rv)),q⟩
 ·exact(sb.2 b' ne).symm▸e
 ·obtain⟨o,_,_,e,_⟩:=hx';exact⟨o,e⟩
theorem aaO{pos:Pos}:PE X (.Dict [] [] pos) (fun _ H Q=>∀l,H l=none->Q (.ref l) (upd H l (.ext (jr (fun _ _=>False) l [])))):=by
 intro pins s σ H Q I h;have far:ik≠s.heap.objs.size:=fun z=>by have lt:=(I.mod.glob.keeps I.bk).lt;rw[<- z]at lt;exact absurd lt (by decide)
 refine wpAny_Dict_empty ⟨.ref s.heap.objs.size,_,I.laid (t':=s.toks) (fun b u e=>cy _ e) (bE _) (FP (.new s.heap) (by simpa using dE far) .nil),rfl,h _ I.fresh⟩
theorem aaP{i:Nat}{x:Str}{pos pos' lp:Pos}(hN:X.N.Nodup)(hi:X.N[i]?=some x)(hx:Kg X.env.scope x)(hs:dS (.Dict [] [] lp) (some (.Name x pos')) pos.line X.env=pure false:=by rfl)(hf:X.fn x=true∨X.env.scope.names.lookup x=some .local:=by first|exact .inl rfl|exact .inr rfl|assumption) :
  SS X B W (.Assign [.Name x pos'] (.Dict [] [] lp) pos) (fun ρ=>.nx (ρ.set i (.od []))):=by
 refine PS.imp (yN hN hi hx aaO hs hf) fun De σ H ⟨ρ,G,s,p⟩=>fun l hl=>?_;exact p _ _ G (s.Kw rfl ⟨_,[],rfl,fun _ _ z=>z.elim,.nil⟩ hl) (.refl _)
noncomputable def uy:List D->Option (List Int)
 | []=>some []
 | .int i::ds=>(uy ds).map (i::·)
 |_::_=>none
noncomputable def tu:D->Option (List Int)
 | .tup ds=>uy ds
 |_=>none
theorem zR{K:ai}{G:Hp}:∀{ds:List D}{vs:List V}{ks:List Int},bD K G ds vs->uy ds=some ks->vs=ks.map V.int
 | [],vs,ks,r,e=>by cases e;exact bA.mp r
 |d::ds,vs,ks,r,e=>by
  obtain⟨v,vs',rfl,r1,r2⟩:=aV.mp r;cases d with
  |int i =>
   simp only[uy]at e;cases e2:uy ds with
   |none=>rw[e2]at e;cases e
   |some js =>
    rw[e2]at e;cases e;rw[aX.mp r1,zR r2 e2];rfl
  |_=>cases e
theorem FQ{K:ai}{G:Hp}{d:D}{v:V}{ks:List Int}(r:Rep K G d v)(e:tu d=some ks):∃b,v=.ref b/\mX K G b (ks.map V.int):=by
 cases d with
 |tup ds =>
  obtain⟨a,vs,rfl,h,rr⟩:=bN.mp r;exact⟨a,rfl,zR rr e▸h⟩
 |_=>cases e
noncomputable def iu(kvs:List (List Int×D))(ks:List Int):Option D:=(kvs.find? fun p=>decide (p.1=ks)).map (·.2)
noncomputable def qQ(kvs:List (List Int×D))(ks:List Int)(d:D):List (List Int×D):=if (iu kvs ks).isSome then kvs.map (fun p=>if p.1=ks then (p.1,d) else p) else kvs++[(ks,d)]
theorem cM.get{K:ai}{G:Hp}{ks:List Int}{kvs:List (List Int×D)}{bh:List (List Int×V)}(h:cM K G kvs bh):(iu kvs ks=none/\sZ bh ks=none)∨∃d v,iu kvs ks=some d/\sZ bh ks=some v/\Rep K G d v:=by
 induction h with
 |nil=>exact .inl ⟨rfl,rfl⟩
 | @cons k d v kvs bh r t ih =>
  by_cases c:k=ks
  ·exact .inr ⟨d,v,by simp[iu,jv,c],by simp[sZ,jv,c],r⟩
  ·have e1:iu ((k,d)::kvs) ks=iu kvs ks:=by simp[iu,jv,c]
   have e2:sZ ((k,v)::bh) ks=sZ bh ks:=by simp[sZ,jv,c]
   rw[e1,e2];exact ih
theorem cM.app{K:ai}{G:Hp}{k:List Int}{d:D}{v:V}{kvs:List (List Int×D)}{bh:List (List Int×V)}(h:cM K G kvs bh)(r:Rep K G d v):cM K G (kvs++[(k,d)]) (bh++[(k,v)]):=by
 induction h with
 |nil=>exact .cons r .nil
 |cons r1 _ ih=>exact .cons r1 ih
theorem cM.len{K:ai}{G:Hp}{kvs:List (List Int×D)}{bh:List (List Int×V)}(h:cM K G kvs bh):kvs.length=bh.length:=by
 induction h with
 |nil=>rfl
 |cons _ _ ih=>simp[ih]
theorem cM.put{K:ai}{G:Hp}{ks:List Int}{d:D}{v:V}{kvs:List (List Int×D)}{bh:List (List Int×V)}(h:cM K G kvs bh)(r:Rep K G d v):cM K G (qQ kvs ks d) (Lw bh ks v):=by
 rcases h.get (ks:=ks) with ⟨e1,e2⟩|⟨_,_,e1,e2,_⟩
 ·unfold qQ Lw;rw[e1,e2];exact h.app r
 ·unfold qQ Lw;rw[e1,e2];show cM K G (kvs.map _) (bh.map _);clear e1 e2
  induction h with
  |nil=>exact .nil
  | @cons k d' v' kvs bh r1 _ ih =>
   by_cases c:k=ks
   ·simpa[c] using cM.cons r ih
   ·simpa[c] using cM.cons r1 ih
theorem SR.od{K:ai}{σ:St}{H G:Hp}{ρ:aD}(h:SR K B σ H ρ G){i:Nat}{kvs:List (List Int×D)}(q:ρ[i]?=some (.od kvs)) :
  ∃a U bh,σ[i]?=some (some (.ref a))/\H a=some (.ext (jr U a bh))/\G a=none/\B.2 a=none/\(∀b ks,U b ks->UG K G b ks)/\cM K G kvs bh:=by
 obtain⟨a,o,h1,h2,h3,h4,U,bh,rfl,h5,h6⟩:=h.own i _ q rfl;exact⟨a,U,bh,h1,h2,h3,h4,h5,h6⟩
noncomputable def jP(j:Nat)(f:aD->Rs D):aD->Rs D:=fun ρ=>(f ρ).bind fun k=>match tu k,ρ[j]? with|some ks,some (.od kvs)=>.ok (.bl (iu kvs ks).isSome)|_,_=>.no
theorem Jd{σ:St}{H:Hp}{j:Nat}{f:aD->Rs D}{Q:VK}(h:tF X.K B W (jP j f) σ H Q):tOp (WD X.K) (tF X.K B W f) (yL j) σ H Q:=by
 obtain⟨ρ,G,s,p⟩:=h;refine⟨ρ,G,s,?_⟩;unfold jP at p;cases e:f ρ with
 |no=>rw[e]at p;exact p.elim
 |ex c n=>rw[e]at p;exact p
 |ok k =>
  rw[e]at p;intro v H' G' y r;have p':Post X.K W σ G H (match tu k,ρ[j]? with|some ks,some (.od kvs)=>.ok (.bl (iu kvs ks).isSome)|_,_=>.no) Q:=p;cases e1:tu k with
  |none=>rw[e1]at p';exact p'.elim
  |some ks =>
   rw[e1]at p';obtain⟨b,rfl,hb⟩:=FQ r e1;cases e2:ρ[j]? with
   |none=>rw[e2]at p';exact p'.elim
   |some z =>
    rw[e2]at p';cases z with
    |od kvs =>
     obtain⟨d,U,bh,h1,h2,h3,h4,h5,h6⟩:=s.od e2;refine⟨_,h1,b,d,ks,U,bh,rfl,rfl,Same.iy y.gh hb,Ho (y.hh _ _ h2),fun c js z=>Same.iy (y.gg.trans y.gh) (h5 c js z),?_⟩;have:(sZ bh ks).isSome=(iu kvs ks).isSome:=by rcases h6.get (ks:=ks) with ⟨q1,q2⟩|⟨_,_,q1,q2,_⟩ <;> rw[q1,q2] <;> rfl
     rw[this];exact p' _ H' G' y (cZ.mpr rfl)
    |_=>exact p'.elim
end
section
variable{X:Cx}{B:Bs}{W:Wi}
theorem WK{K:ai}{σ:St}{H G H' G':Hp}{ρ:aD}{j:Nat}{kvs:List (List Int×D)}{k:D}{v:V}{ks:List Int}(s:SR K B σ H ρ G)(q:ρ[j]?=some (.od kvs))(y:Ext G H G' H')(r:Rep K G' k v)(e:tu k=some ks) :
  ∃b d U bh,v=.ref b/\σ[j]?=some (some (.ref d))/\mX K H' b (ks.map V.int)/\UG K G' b ks/\H' d=some (.ext (jr U d bh))/\(∀b ks,U b ks->UG K G' b ks)/\(∀b ks,UG K G' b ks->UG K H' b ks)/\cM K G' kvs bh:=by
 obtain⟨b,rfl,hb⟩:=FQ r e;obtain⟨d,U,bh,h1,h2,h3,h4,h5,h6⟩:=s.od q;exact⟨b,d,U,bh,rfl,h1,Same.iy y.gh hb,hb,y.hh _ _ h2,fun c js z=>Same.iy y.gg (h5 c js z),fun c js z=>Same.iy y.gh z,h6.mono y.gg⟩
noncomputable def ql(j:Nat)(fe fk:aD->Rs D):aD->Ou:=fun ρ=>oR (fe ρ) ρ fun v=>match ρ[j]? with
 |some (.od kvs)=>oR (fk ρ) ρ fun k=>(match tu k with
  |some ks=>if kvs.length<=1000000 then .nx (ρ.set j (.od (qQ kvs ks v))) else .no
  |none=>.no)
 |_=>.no
theorem aaQ{e b:ag}{x:Str}{p1 tp pos:Pos}{j:Nat}{fe fk:aD->Rs D}(hu:X.A.units + 1 < bu)(he:SE X B W e fe)(hv:PE X (.Name x p1) (yL j))(hb:SE X B W b fk)
  (hs:ny [.Subscript (.Name x p1) b tp] e pos.line X.env=pure false:=by rfl) (hw:nz [.Subscript (.Name x p1) b tp] e X.env=pure none:=by rfl)
  (h1:(fF [.Subscript (.Name x p1) b tp] X.env).map (·.2)=[assign (.Subscript (.Name x p1) b tp) X.env]:=by rfl)
  (ha:∀v,assign (.Subscript (.Name x p1) b tp) X.env v=(do
   let ov <- gc [v] (bj (.Name x p1) X.env)
   let iv <- gc [v,ov] (bj b X.env)
   nv tp
   gc [v,ov,iv] (setItem ov iv v)
   release [v,ov,iv] []):=by intro _;rfl) :
  SS X B W (.Assign [.Subscript (.Name x p1) b tp] e pos) (ql j fe fk):=by
 refine PS.imp (Sw he (acS hv hb (aey hu) ha) hs hw h1) fun De σ H fU=>?_;obtain⟨ρ,G,s,p⟩:=fU;unfold ql at p;refine⟨ρ,G,s,gQ s p fun d v H' G' _ y r p'=>?_⟩;cases e2:ρ[j]? with
 |none=>rw[e2]at p';exact p'.elim
 |some z =>
  rw[e2]at p';cases z with
  |od kvs =>
   have s':=s.ext y;obtain⟨d0,U0,BJ,h1,h2,_⟩:=s'.od e2;refine⟨_,h1,ρ,G',s',gQ s' p' fun k v2 H2 G2 _ y2 r2 p2=>?_⟩;cases e1:tu k with
   |none=>rw[e1]at p2;exact p2.elim
   |some ks =>
    rw[e1]at p2;dsimp only at p2;by_cases hl:kvs.length<=1000000
    ·rw[if_pos hl]at p2;obtain⟨b',d1,U,bh,rfl,q1,q2,q3,q4,q5,q6,q7⟩:=WK s' e2 y2 r2 e1;rw[h1]at q1;cases q1;refine⟨b',d0,ks,U,UG X.K G2,bh,rfl,rfl,q2,q4,q5,q6,q3,by rw[<- q7.len];exact hl,?_⟩;exact p2 σ _ G2 ((s'.ext y2).uW e2 rfl h1 rfl ⟨UG X.K G2,_,rfl,fun _ _ z=>z,q7.put (r.mono y2.gg)⟩) (.refl _)
    ·rw[if_neg hl]at p2;exact p2.elim
  |_=>exact p'.elim
end
section
variable{X:Cx}{B:Bs}{W:Wi}
theorem Je{M:Model}{A:ba}{E:aa->af->Prop}{s:af}{v u:aa}{Q:aa->af->Prop}(h:aw M A (fy .In v u) (fun r s'=>∃c,r=.bool c/\Q (.bool (!c)) s') E s) :
  aw M A (fy .NotIn v u) Q E s:=by
 have h':aw M A (contains u v >>= fun b=>pure (aa.bool b)) (fun r s'=>∃c,r=aa.bool c/\Q (.bool (!c)) s') E s:=h;show aw M A (contains u v >>= fun b=>pure (aa.bool (!b))) Q E s;intro Γ p hΓ;have h2:=h' Γ p hΓ;simp only[Sem.wp_bind',Sem.wp_pure']at h2 ⊢;refine Sem.wp_mono M Γ _ (fun b p1 s1 z=>?_) (fun _ _ _ z=>z) _ _ h2;obtain⟨c,e,q⟩:=z;cases e;exact q
noncomputable def WL(K:ai):R2:=fun x y H Q=>WD K x y H fun z H'=>∃c,z=.bl c/\Q (.bl (!c)) H'
theorem WM(hu:X.A.units + 1 < bu):rP X (fy .NotIn) (WL X.K):=by intro pins s σ H x y v u Q I rx ry h;refine Je (d6 (Pz hu pins s σ H x y v u _ I rx ry h) (fun r s' ⟨z,H',I',rz,c,e,q⟩=>?_) fun _ _ e=>e);subst e;cases rz;exact⟨c,rfl,V.bl (!c),H',I',rfl,q⟩
noncomputable def uz(j:Nat)(f:aD->Rs D):aD->Rs D:=fun ρ=>(jP j f ρ).bind fun z=>match z with|.bl c=>.ok (.bl (!c))|_=>.no
theorem Rq{σ:St}{H:Hp}{j:Nat}{f:aD->Rs D}{Q:VK}(h:tF X.K B W (uz j f) σ H Q):tOp (WL X.K) (tF X.K B W f) (yL j) σ H Q:=by
 obtain⟨ρ,G,s,p⟩:=rT (k:=fun _ z=>match z with|.bl c=>.ok (.bl (!c))|_=>.no) h;have g:tF X.K B W (jP j f) σ H fun z H'=>∃c,z=.bl c/\Q (.bl (!c)) H':=⟨ρ,G,s,p.mono fun v H1 ⟨ρ1,G1,d,s1,r,q⟩=>by
  cases d with
  |bl c=>exact⟨c,cZ.mp r,q _ H1 G1 s1.Bl (cZ.mpr rfl)⟩
  |_=>exact q.elim⟩
 exact Jd g
theorem aaR{a:ag}{x:Str}{p1 pos:Pos}{j:Nat}{f:aD->Rs D}(hu:X.A.units + 1 < bu)(ha:SE X B W a f)(hv:PE X (.Name x p1) (yL j))(hm:gp .NotIn (.Name x p1)=false:=by rfl) :
  ST X B W (.Compare a [.NotIn] [.Name x p1] pos) (fT (uz j f)):=PT.imp (DQ (WM hu) ha hv hm) fun σ H Q h=>Rq (Oe h)
end
noncomputable def Rr(i:Nat):aD->Ou:=fun ρ=>.nx (ρ.set i (.od []))
section
variable{X:Cx}{B:Bs}{W:Wi}
theorem FT(i:Nat){x:Str}{pos pos' lp:Pos}(hN:X.N.Nodup)(hi:X.N[i]?=some x:=by rfl)(hx:Kg X.env.scope x:=by first|exact Or.inl rfl|exact Or.inr rfl)(hs:dS (.Dict [] [] lp) (some (.Name x pos')) pos.line X.env=pure false:=by rfl)(hf:X.fn x=true∨X.env.scope.names.lookup x=some .local:=by first|exact .inl rfl|exact .inr rfl|assumption) :
  SS X B W (.Assign [.Name x pos'] (.Dict [] [] lp) pos) (Rr i):=aaP hN hi hx hs hf
theorem WQ(h:X.A.units + 8 < bu):X.A.units + 1 < bu:=by lia
theorem FW(j:Nat){a:ag}{x:Str}{p1 pos:Pos}{f:aD->Rs D}(hu:X.A.units + 8 < bu)(ha:SE X B W a f)(hN:X.N[j]?=some x:=by rfl)(hv:Gz X.env.scope x:=by first|exact Or.inl rfl|exact Or.inr (Or.inl rfl)|exact Or.inr (Or.inr rfl))(hd:qx x:=by decide)
  (hcd:GP x:=by decide) (hm:gp .In (.Name x p1)=false:=by rfl):ST X B W (.Compare a [.In] [.Name x p1] pos) (fT (jP j f)):=by
 refine PT.imp (DQ (Pz (WQ hu)) ha (iw hN hv hd hcd) hm) fun σ H Q h=>?_;exact Jd (Oe h)
theorem sI(j:Nat){e b:ag}{x:Str}{p1 tp pos:Pos}{fe fk:aD->Rs D}(hu:X.A.units + 8 < bu)(he:SE X B W e fe)(hb:SE X B W b fk)(hN:X.N[j]?=some x:=by rfl)(hv:Gz X.env.scope x:=by first|exact Or.inl rfl|exact Or.inr (Or.inl rfl)|exact Or.inr (Or.inr rfl))(hd:qx x:=by decide)
  (hcd:GP x:=by decide)
  (hs:ny [.Subscript (.Name x p1) b tp] e pos.line X.env=pure false:=by rfl) (hw:nz [.Subscript (.Name x p1) b tp] e X.env=pure none:=by rfl)
  (h1:(fF [.Subscript (.Name x p1) b tp] X.env).map (·.2)=[assign (.Subscript (.Name x p1) b tp) X.env]:=by rfl)
  (ha:∀v,assign (.Subscript (.Name x p1) b tp) X.env v=(do
   let ov <- gc [v] (bj (.Name x p1) X.env)
   let iv <- gc [v,ov] (bj b X.env)
   nv tp
   gc [v,ov,iv] (setItem ov iv v)
   release [v,ov,iv] []):=by intro _;rfl) :
  SS X B W (.Assign [.Subscript (.Name x p1) b tp] e pos) (ql j fe fk):=aaQ (WQ hu) he (iw hN hv hd hcd) hb hs hw h1 ha
end
section
variable{X:Cx}{K:ai}{B:Bs}{W:Wi}{σ:St}{G H:Hp}{ρ:aD}{a b c:ag}{pos:Pos}{fa fb fc:aD->Rs D}
noncomputable def vD:List D->Rs D
 | [.int i,.int j]=>.ok (.int (if j < i then j else i))
 |_=>.no
theorem aaS:tL K (fun xs H Q=>∃i j,xs=[V.int i,.int j]/\Q (.int (if j < i then j else i)) H) vD:=by
 intro B W σ ρ G H ds vs Q s r p
 match ds,p,r with
 | [.int i,.int j],p,r =>
  obtain⟨v1,vs1,rfl,r1,r2⟩:=aV.mp r;obtain⟨v2,vs2,rfl,r3,r4⟩:=aV.mp r2;cases bA.mp r4;exact⟨i,j,by rw[aX.mp r1,aX.mp r3],p _ H G s.Bl (aX.mpr rfl)⟩
theorem FZ{e e':ag}{p pos:Pos}(hc:X.calm=true) (hm:X.mg "min"=none) (ha:SE X B W e fa) (hb:SE X B W e' fb) (hg:Gl X "min":=by rfl) (he:bb [e,e'] X.env=[(false,bj e X.env),(false,bj e' X.env)]:=by rfl) (he':bb [e'] X.env=[(false,bj e' X.env)]:=by rfl) :
  SE X B W (.Call (.Name "min" p) [e,e'] [] pos) (fA (aj fa (aj fb aK)) vD) :=
 qH (QC hc) aaS hg hm rfl (ak ha (ak hb aH he') (by rw[he,he'])) (by decide) (by decide) (by rw[he,he']) (by rw[he'];rfl)
end
section
variable{X:Cx}{B:Bs}{W:Wi}
theorem aaT(j:Nat){a:ag}{x:Str}{p1 pos:Pos}{f:aD->Rs D}(hu:X.A.units + 8 < bu)(ha:SE X B W a f)(hN:X.N[j]?=some x:=by rfl)(hv:Gz X.env.scope x:=by first|exact Or.inl rfl|exact Or.inr (Or.inl rfl)|exact Or.inr (Or.inr rfl))(hd:qx x:=by decide)
  (hcd:GP x:=by decide) (hm:gp .NotIn (.Name x p1)=false:=by rfl):ST X B W (.Compare a [.NotIn] [.Name x p1] pos) (fT (uz j f)):=aaR (WQ hu) ha (iw hN hv hd hcd) hm
end
end Vl
namespace L2
open PySem PySem.Spec PyProof.Rows
section
variable{X:Cx}{pins:List (ae×Obj)}{σ:List (Option V)}{H:Hp}{s:af}{h':aE}
end
section
variable{X:Cx}
end
end L2
namespace Vl
open PySem PySem.Spec L2
section
variable{X:Cx}{B:Bs}{W:Wi}
end
end Vl
namespace PySem
namespace Rvd
theorem Rt:Slot "reversed" "__init__" "object.__init__" :=
 .of (owner:="object") (n:="__init__") (by rw[vj,vk];kernel_rfl) (by decide+kernel) (by decide+kernel) (by decide+kernel)
  (by first|exact .inl (by decide+kernel)|exact .inr (by decide+kernel)) (by rw[lr];kernel_rfl)
theorem aje:TypeCalled "reversed" "reversed.__new__" "object.__init__" :=
 ⟨by decide+kernel,by decide+kernel,⟨_,_,F.mro_reversed⟩,F.made_reversed,by decide+kernel,by rw[lr];kernel_rfl,Rt⟩
end Rvd
section
variable{prog:aS}{w:az}{A:ba}{E:aa->af->Prop}{s:af}
end
end PySem
namespace PySem
open PyProof.Rows (IsTup)
section
variable{prog:aS}{w:az}{A:ba}{E:aa->af->Prop}{s:af}
end
section
variable{prog:aS}{w:az}{A:ba}{E:aa->af->Prop}{s:af}
end
end PySem
namespace Vl
open PySem PySem.Spec L2
section
variable{X:Cx}{B:Bs}{W:Wi}{K:ai}
end
end Vl
namespace Vl
open PySem PySem.Spec PySem.Calls PySem.W L2
structure ajf (K:ai)(x:Str)(st:bg)(f:ae)(fd:df)(ps:List Str):Prop where
 ex:∃(oc:aa) (od:Option ae) (dV kV doc pm:aa) (an:Option ae) (cdv ct:aa) (osl:Array (Option aa)),
  fd=iq x x (gO st) (cO st) (aF st) dV kV doc pm an cdv ct/\K.lookup f=some ⟨oc,od,.func fd,osl⟩/\nK K cdv x=true
 kp:g9 K (.ref f)=true
 bi:Binds K fd ps []
end Vl
namespace Vl
open PySem PySem.Spec L2
section
variable{X:Cx}{K:ai}{B:Bs}{W:Wi}{σ:St}{G H:Hp}{ρ:aD}{a b c:ag}{pos:Pos}{fa fb fc:aD->Rs D}
noncomputable def Jf:List D->Rs D
 | [.int i,.int j]=>.ok (.int (if j > i then j else i))
 |_=>.no
theorem aaU:tL K (fun xs H Q=>∃i j,xs=[V.int i,.int j]/\Q (.int (if j > i then j else i)) H) Jf:=by
 intro B W σ ρ G H ds vs Q s r p
 match ds,p,r with
 | [.int i,.int j],p,r =>
  obtain⟨v1,vs1,rfl,r1,r2⟩:=aV.mp r;obtain⟨v2,vs2,rfl,r3,r4⟩:=aV.mp r2;cases bA.mp r4;exact⟨i,j,by rw[aX.mp r1,aX.mp r3],p _ H G s.Bl (aX.mpr rfl)⟩
theorem PB{e e':ag}{p pos:Pos}(hc:X.calm=true) (hm:X.mg "max"=none) (ha:SE X B W e fa) (hb:SE X B W e' fb) (hg:Gl X "max":=by rfl) (he:bb [e,e'] X.env=[(false,bj e X.env),(false,bj e' X.env)]:=by rfl) (he':bb [e'] X.env=[(false,bj e' X.env)]:=by rfl) :
  SE X B W (.Call (.Name "max" p) [e,e'] [] pos) (fA (aj fa (aj fb aK)) Jf) :=
 qH (QB hc) aaU hg hm rfl (ak ha (ak hb aH he') (by rw[he,he'])) (by decide) (by decide) (by rw[he,he']) (by rw[he'];rfl)
end
noncomputable def Jg:List D->Rs (List D)
 | [.int m,.int n]=>if (-(2 ^ 62)<=m/\m < 2 ^ 62/\-(2 ^ 62)<=n/\n < 2 ^ 62) then .ok ((bS (n - m).toNat).map fun(i:Nat)=>.int (m + i)) else .no
 |_=>.no
noncomputable def fL2(fs:aD->Rs (List D))(g:List D->Rs (List D)):aD->Rs (List D):=fun ρ=>(fs ρ).bind g
section
variable{X:Cx}{B:Bs}{W:Wi}
theorem Ru{tg e e':ag}{p1 p2:Pos}{f f':aD->Rs D}(hm:X.mg "range"=none) (hi:SE X B W e f) (hi':SE X B W e' f') (hgl:Gl X "range":=by rfl) (hst:bb [e,e'] X.env=[(false,bj e X.env),(false,bj e' X.env)]:=by rfl) (hst2:bb [e'] X.env=[(false,bj e' X.env)]:=by rfl) :
  SI X B W tg (.Call (.Name "range" p1) [e,e'] [] p2) (fL2 (aj f (aj f' aK)) Jg):=by
 refine PI.imp (Ci hgl hm (ak hi (ak hi' aH (by rw[hst2];rfl)) (by rw[hst,hst2])) hst hst2) fun σ H R ⟨ρ,G,s,p⟩=>⟨ρ,G,s,?_⟩
 unfold fL2 at p;cases e1:aj f (aj f' aK) ρ with
 |ok ds =>
  rw[e1]at p;intro vs H1 G1 e r;have p':Om X.K W σ G H (Jg ds) R:=p;unfold Jg at p';split at p'
  ·rename_i m n;by_cases c:(-(2 ^ 62)<=m/\m < 2 ^ 62/\-(2 ^ 62)<=n/\n < 2 ^ 62)
   ·rw[if_pos c]at p';obtain⟨v1,vs1,rfl,r1,r2⟩:=aV.mp r;obtain⟨v2,vs2,rfl,r3,r4⟩:=aV.mp r2;cases bA.mp r4;exact⟨m,n,by rw[aX.mp r1,aX.mp r3],c,p' _ H1 G1 e Ux⟩
   ·rw[if_neg c]at p';exact p'.elim
  ·exact p'.elim
 |ex c n=>rw[e1]at p;exact p
 |no=>rw[e1]at p;exact p
end
end Vl
namespace Dk
open PySem PySem.Spec
section
variable{prog:aS}{w:az}{A:ba}{E:aa->af->Prop}{s:af}{d it:ae}{es:Array md}{ep:Nat}
noncomputable def uD(h:aE)(d:ae)(es:Array md)(ep:Nat):Prop:=∃o,h.get? d=some o/\o.ExactDict/\o.data=.dict es ep
theorem uD.ty(x:uD s.heap d es ep):s.TypeIs (.ref d) "dict":=let ⟨o,ho,hc,_⟩:=x;⟨o,ho,hc.1⟩
theorem uD.go{h h':aE}(x:uD h d es ep)(e:∀o,h.get? d=some o->h'.get? d=some o):uD h' d es ep:=let ⟨o,ho,r⟩:=x;⟨o,e o ho,r⟩
noncomputable def kit(d:ae)(i n ep:Nat):Obj:={ cls:=.type "dict_keyiterator",data:=.fields #[.ref d,.int i 0,.int n 0,.int ep 0] }
theorem aez{h:aE}{i n:Nat}(e:h.get? it=some (kit d i n ep)):h.IsKeyIter it d i n ep:=⟨_,e,rfl,rfl⟩
theorem agX{Q:aa->af->Prop}(hd:(d == ik)=false)(hm:uD s.heap d es ep)(hQ:Q (.ref s.heap.objs.size) { s with heap:=s.heap.push (kit d 0 es.size ep) }):aw (ay prog w) A (kH (.ref d)) Q E s:=by obtain⟨o,ho,hc,hdat⟩:=id hm;refine vn hm.ty F.slot_dict_iter (ku F.slot_dict_iter hm.ty F.entry_dict_iter ?_ (F.args_dict_iter_1 _));unfold Builtin.«dict.__iter__» cE.Dict.dictSlotNone;refine ah (ah (wpAny_notOrdered_dict hm.ty ?_));show aw _ _ (pure (aa.ref d)) _ _ s;refine aT ?_;show aw _ _ (cE.Dict.showsAll d >>= _) _ _ s;unfold cE.Dict.showsAll;rw[if_neg (by rw[hd];exact sj)];refine ah (aT (ah (m6 ho hdat (ah (wc ho hdat ?_)))));exact ah (iA (aT ⟨_,rfl,"dict_keyiterator",_,⟨_,dA _ rfl,rfl⟩,oS.lookup,hQ⟩))
theorem agY{i:Nat}{Q:Option aa->af->Prop}(hit:s.heap.IsKeyIter it d i es.size ep)(hm:uD s.heap d es ep)(hx:i < es.size)
  (hQ:∀h',h'.IsKeyIter it d (i + 1) es.size ep->ef it s.heap h'->Q (some es[i].key) { s with heap:=h' }):aw (ay prog w) A (gd (.ref it)) Q E s:=by
 obtain⟨o,ho,hc,hd⟩:=id hit;obtain⟨od,hod,hcd,hdd⟩:=id hm;unfold gd;refine ah (oo (oq (name:=mP "__next__") hit.typeIs oS (ku oS hit.typeIs F.entry_dict_keyiterator_next ?_ (F.args_dict_keyiterator_next_1 _))));refine ah (aT (ah (ah (ah ?_))))
 first|refine rL hit.typeIs (aT ?_)|refine rS hit.typeIs (aT ?_)
 refine ah (qo ho hd ?_);simp only[show cE.Dict_items.ownsTuple "dict_keyiterator"=false by decide,bz,if_false];show aw _ _ (if (aa.ref d == aa.none)=true then _ else _) _ _ s;rw[if_neg (by intro z;cases z)];refine ah (aT (ah (m6 hod hdd ?_)));rw[if_neg (by simp)];refine ah (aT (ah (wc hod hdd ?_)));rw[if_neg (by simp)];refine aT ?_;simp only[show ¬((i:Int) < 0) from by lia,if_false,mo,mS hx];refine ah (ah ?_)
 first|refine rL hit.typeIs (aT ?_)|refine rS hit.typeIs (aT ?_)
 refine ah (wpAny_isOneOf_keyiter hit.typeIs ?_);show aw _ _ (setField (.ref it) 1 (cz ((i:Int) + 1)) >>= _) _ _ s;refine ah (j8 ho hd (by simp) ?_);have hit':(s.heap.update it (hG (·.setIfInBounds 1 (cz ((i:Int) + 1))))).IsKeyIter it d (i + 1) es.size ep :=
  ⟨_,hV _ ho (nX (kU hd _)),(Obj.cls_mapFields ..).trans hc,by rw[kU hd];simp[cz]⟩
 refine ah (fI (ah ?_));refine wpAny_isOneOf_keyiter (s:={ s with heap:=s.heap.update it (hG (·.setIfInBounds 1 (cz ((i:Int) + 1)))) }) hit'.typeIs ?_;show aw _ _ (pure es[i].key) _ _ _;exact aT (aT ⟨_,rfl,aT (hQ _ hit' (ki ..))⟩)
theorem ajg{Q:Option aa->af->Prop}(hh:A.handled=none)(hit:s.heap.IsKeyIter it d es.size es.size ep)(hm:uD s.heap d es ep)
  (hQ:∀h',aE.ExtBut it s.heap h'->Q none { s with heap:=h' }):aw (ay prog w) A (gd (.ref it)) Q E s:=by
 obtain⟨o,ho,hc,hd⟩:=id hit;obtain⟨od,hod,hcd,hdd⟩:=id hm;unfold gd;refine ah (oo (oq (name:=mP "__next__") hit.typeIs oS (ku oS hit.typeIs F.entry_dict_keyiterator_next ?_ (F.args_dict_keyiterator_next_1 _))));refine ah (aT (ah (ah (ah ?_))))
 first|refine rL hit.typeIs (aT ?_)|refine rS hit.typeIs (aT ?_)
 refine ah (qo ho hd ?_);simp only[show cE.Dict_items.ownsTuple "dict_keyiterator"=false by decide,bz,if_false];show aw _ _ (if (aa.ref d == aa.none)=true then _ else _) _ _ s;rw[if_neg (by intro z;cases z)];refine ah (aT (ah (m6 hod hdd ?_)));rw[if_neg (by simp)];refine ah (aT (ah (wc hod hdd ?_)));rw[if_neg (by simp)];refine aT ?_;simp only[show ¬((es.size:Int) < 0) from by lia,if_false,mo,qq (bE _)];refine ah (ah ?_)
 first|refine rL hit.typeIs (aT ?_)|refine rS hit.typeIs (aT ?_)
 show aw _ _ (setField (.ref it) 0 .none >>= _) _ _ s;refine ah (j8 ho hd (by simp) ?_);show aw _ _ (newExc (.type "StopIteration") [] >>= _) _ _ _;refine ah ?_;simp only[newExc,newTuple];refine ah (iA ?_ (by size_fits));refine ah (m:=qr _ _) (u_ (a:=aa.none) (by first|rfl|(simp only[qr];rfl)) ?_);refine iA ?_ (by size_fits);simp only[raiseNew];refine ah (wpAny_handled ?_);rw[show A.in1.handled=none from hh];refine ah (aT (tz ?_));refine ah (qs (T:="StopIteration") (b:=true) ⟨_,dA _ rfl,rfl⟩ isSubtype_stop ?_);exact aT (hQ _ (((ki ..).extBut.push _).push _))
theorem aeA(hh:A.handled=none)(hne:d≠it) :
  Walks prog w A it [it,d] [it] es.size (fun i v=>∃e,es[i]?=some e/\v=e.key) (fun i h=>h.IsKeyIter it d i es.size ep/\uD h d es ep) where
 sub:=fun b hb=>by simp at hb;simp[hb]
 frame:=fun _ _ _ st hk=>⟨st.1.at fun o e=>hk it (by simp) o e,st.2.go fun o e=>hk d (by simp) o e⟩
 item:=fun i s Q E hi st hQ=>agY st.1 st.2 hi fun h' hI hs=>hQ _ h' s.toks ⟨_,mS hi,rfl⟩ ⟨hI,st.2.go fun o e=>(hs.2 d hne).trans e⟩ fun b o hb e=>(hs.2 b (fun z=>hb (by simp[z]))).trans e
 done:=fun s Q E st hQ=>ajg hh st.1 st.2 fun h' he=>hQ h' s.toks fun b o hb e=>he b o (fun z=>hb (by simp[z])) e
 self:=fun _ _ _ _ st hQ=>wpAny_pyIter_keyiter st.1 hQ
theorem agZ{Q:Bool->af->Prop}(hm:uD s.heap d es ep)(h:Q false s):aw (ay prog w) A (qv (.ref d)) Q E s:=by
 unfold qv;refine ah (u6 hm.ty we.lookup ?_);have e1:splitId "dict.__len__"=some ("dict","__len__"):=by kernel_rfl
 simp only[e1];refine ah (qs (b:=true) hm.ty (by rw[lr];kernel_rfl) ?_);simp only[eB,bz,if_false];have pick:∀{c:Bool}{x y:Sem Bool},c=true->aw (ay prog w) A x Q E s->aw (ay prog w) A (if c=true then x else y) Q E s:=fun {c x y} hc hy=>by rw[hc];exact hy
 refine pick (by decide+kernel) ?_;exact ah (oa hm.ty (aT h))
noncomputable abbrev cA:Obj:=Tb.cA
theorem WR{D:ae}{Q:List aa->af->Prop}(hh:A.handled=none)(hd:(D == ik)=false)(ho:uD s.heap D es ep)(hn:es.size<=4900)
  (hQ:∀h' tk,(∀b o,s.heap.get? b=some o->h'.get? b=some o)->s.heap.objs.size<=h'.objs.size->Q (es.toList.map (·.key)) { s with heap:=h',toks:=tk }):aw (ay prog w) A (collect (.ref D)) Q E s:=by
 have wH:D < s.heap.objs.size:=by obtain⟨o,e,_⟩:=id ho;exact bP e
 unfold collect;refine ah (qi (ko F.entry_proto_collect ?_));rw[lj F.plain_proto_collect _];show aw _ A.in1 (newList [] >>= fun l=>again (.builtin "list.__iadd__" ⟨[l,.ref D],[]⟩)) _ _ s;refine ah (iA ?_);refine aT ⟨mE qA _,ko F.entry_list_iadd ?_⟩;rw[lj qA _];have p1:∀b o,s.heap.get? b=some o->(s.heap.push cA).get? b=some o:=fun b o e=>cy _ e;have hD1:uD (s.heap.push cA) D es ep:=ho.go fun o e=>p1 _ _ e;have hS1:(s.heap.push cA).get? s.heap.objs.size=some cA:=dA _ rfl;show aw _ A.in1 (qB (.ref s.heap.objs.size) (.ref D) (.ref s.heap.objs.size)) _ _ _;unfold qB;have hT:va { s with heap:=s.heap.push cA } (.ref D) "dict":=uD.ty (s:={ s with heap:=s.heap.push cA }) hD1;refine ah (oa hT ?_);have k1:qE (.ref s.heap.objs.size) (.ref D)=false:=by simp[qE];exact lT wH
 have k2:(aa.type "dict" == aa.type "list")=false:=by decide
 have k3:(aa.type "dict" == aa.type "tuple")=false:=by decide
 simp only[k1,k2,k3,u5,bz,if_false];refine ah (agX hd hD1 ?_);have p2:∀b o,(s.heap.push cA).get? b=some o->((s.heap.push cA).push (kit D 0 es.size ep)).get? b=some o:=fun b o e=>cy _ e;have hD2:uD ((s.heap.push cA).push (kit D 0 es.size ep)) D es ep:=hD1.go fun o e=>p2 _ _ e;have hS2:=p2 _ _ hS1;have hI2:((s.heap.push cA).push (kit D 0 es.size ep)).get? (s.heap.push cA).objs.size=some (kit D 0 es.size ep):=dA _ rfl;have Fi:(s.heap.push cA).objs.size=s.heap.objs.size + 1:=pk ..;refine ah (fI (agZ hD2 ?_));have pick:∀{c:Bool}{x y:Sem ot}{R:ot->af->Prop}{F':aa->af->Prop}{s':af},c=true->aw (ay prog w) A.in1 x R F' s'->aw (ay prog w) A.in1 (if c=true then x else y) R F' s':=fun {c x y R F' s'} hc hy=>by rw[hc];exact hy
 refine pick (by decide+kernel) ?_;refine ah (kv ?_);refine ah ?_;show aw _ A.in1 (qS s.heap.objs.size (·.push .none) >>= fun _=>qS s.heap.objs.size (·.pop)) _ _ _;refine ah (ox hS2 rfl ?_);have hS3:=hV (eA (·.push aa.none)) hS2 rfl;refine ox hS3 rfl ?_;have Bt:=hV (eA (·.pop)) hS3 rfl;generalize hH:(((s.heap.push cA).push (kit D 0 es.size ep)).update s.heap.objs.size (eA (·.push aa.none))).update s.heap.objs.size (eA (·.pop))=H at Bt;have oth:∀b o,b≠s.heap.objs.size->((s.heap.push cA).push (kit D 0 es.size ep)).get? b=some o->H.get? b=some o:=fun b o hb e=>by rw[<- hH];exact(i8 _ _ (dE hb)).trans ((i8 _ _ (dE hb)).trans e)
 have W:=(aeA (prog:=prog) (w:=w) (A:=A.in1) (d:=D) (it:=(s.heap.push cA).objs.size) (es:=es) (ep:=ep) (by simpa using hh) (by rw[Fi];exact cv (j9 wH))).toS;have hSf:s.heap.objs.size∉[(s.heap.push cA).objs.size,D]:=by simp only[cm,f9,or_false,not_or];exact⟨by rw[Fi];exact cv (vx _),lT wH⟩
 refine aT ⟨mE F.plain_extend_loop _,codeAny_extend_loopS W (by rw[d8];lia) s.heap.objs.size hSf _ es.size 0 _ _ _ rfl (eJ _) ⟨aez (oth _ _ (by rw[Fi];exact vi _) hI2),hD2.go fun o e=>oth _ _ (cv wH) e⟩ Bt (ItemsOf.nil _) fun s' acc c hm hS' hacc=>?_⟩;show aw _ A (load s.heap.objs.size >>= _) _ _ s';refine ah (wpAny_load hS' ?_);have hacc':acc.toList=es.toList.map (·.key):=by
  apply vy;intro i;rw[di,jb,jb];cases e:acc[i]? with
  |some v =>
   obtain⟨x,hx,rfl⟩:=hacc.2 i v e;rw[hx];rfl
  |none =>
   have:acc.size<=i:=by simpa using e
   rw[hacc.1]at this;rw[qq this];rfl
 obtain⟨h',g',d',tk',os'⟩:=s';have eg:g'=s.gens:=hm.gens;have ed:d'=s.drawn:=hm.drawn;have eo:os'=s.os:=hm.os;subst eg ed eo;show aw _ _ (pure acc.toList) _ _ _;rw[hacc'];refine aT (hQ h' tk' (fun b o e=>hm.heap b o ?_ (oth b o (cv (bP e)) (p2 _ _ (p1 _ _ e)))) (gm (bP hS')));simp only[cm,f9,or_false,not_or];exact⟨cv (bP e),by rw[Fi];exact cv (j9 (bP e))⟩
end
end Dk
namespace Vl
open PySem PySem.Spec L2 So Tb
section
variable{X:Cx}{B:Bs}{W:Wi}{K:ai}
noncomputable def aeB(K:ai):List V->Hp->VK->Prop:=fun xs H Q=>∃(a:ae) (U:ae->List Int->Prop) (bh:List (List Int×V)),xs=[.ref a]/\NT H a U bh/\(∀b ks,U b ks->UG K H b ks)/\bh.length < 4900/\(∀p∈bh,p.1≠[]) /\
 ∀l zs,H l=none->zs.length=(bO (bh.map (·.1))).length->(∀(i:Nat) v,zs[i]?=some v->∃b,v=.ref b/\U b ((bO (bh.map (·.1))).getD i []))->Q (.ref l) (upd H l (.lst zs))
theorem xH{U:ae->List Int->Prop}:∀{bh:List (List Int×V)}{xs:List (List Int×ae×aa)},Paired (fun(p:List Int×V) (q:List Int×ae×aa)=>p.1=q.1/\U q.2.1 q.1/\RelV p.2 q.2.2) bh xs ->
  xs.map (·.1)=bh.map (·.1)/\∀x∈xs,U x.2.1 x.1
 | [],_,.nil=>⟨rfl,fun _ h=>by cases h⟩
 |p::bh,q::xs,.cons r t=>by
  obtain⟨e,m⟩:=xH t;refine⟨by rw[bX,bX,e,r.1],fun x hx=>?_⟩;rcases cm.mp hx with rfl|hx
  ·exact r.2.1
  ·exact m x hx
theorem Lx(hc:X.calm=true):gZ X (.builtin "sorted") (aeB X.K):=by
 intro pins s σ H xs us Q I r h;obtain⟨a,U,bh,rfl,hH,hU,hz,hne,q⟩:=h;obtain⟨u,rfl,rx⟩:=r.one;cases rx;obtain⟨φ,hH,hφ⟩:=hH;obtain⟨o,es,ep,ys,ho,hx,hdat,hsys,hes,hnd,hp⟩:=hφ _ (I.hok _ _ hH).1;obtain⟨ek,hu⟩:=xH hp;have hlen:ys.length=bh.length:=by have:=congrArg ip ek;simpa using this
 have hsz:es.size=ys.length:=by have:=congrArg ip hes;simpa using this
 have evs:es.toList.map (·.key)=ys.map fun x=>aa.ref x.2.1:=by rw[hes,gz];rfl
 have each:∀(i:Nat) v,(ys.map fun x=>aa.ref x.2.1)[i]?=some v->∃b,v=.ref b/\da (cq X.prog X.w) s.heap ((ys.map (·.1)).getD i []) b/\U b ((ys.map (·.1)).getD i []):=fun i v hv=>by
  rw[di]at hv;cases e:ys[i]? with
  |none=>rw[e]at hv;cases hv
  |some x =>
   rw[e]at hv;have hg:(ys.map (·.1)).getD i []=x.1:=by rw[gx,di,e];rfl
   rw[hg];have hux:=hu x (i7 e);exact⟨x.2.1,(et hv).symm,Fw I (hU _ _ hux),hux⟩
 have hd0:Dk.uD s.heap a es ep:=⟨o,ho,hx,hdat⟩
 refine So.wK (vs:=ys.map fun x=>aa.ref x.2.1) (aY:=ys.map (·.1)) (fun Q' E' hq=>?_) ⟨by simp,fun i v hv=>let ⟨b,h1,h2,_⟩:=each i v hv;⟨b,h1,h2⟩⟩ (fun ks hks=>?_) (by simp;lia) fun h' tk l n p' k hl' hsp hg=>?_
 ·have:=Dk.WR (prog:=X.prog) (w:=X.w) (A:=X.A.in1) (E:=E') (Q:=Q') (by simpa using I.ok.hd hc) hsys hd0 (by lia) (by rw[evs];exact hq);exact this
 ·rw[ek]at hks;obtain⟨p,hp',rfl⟩:=dC.mp hks;exact hne p hp'
 ·have ho':=uw (U:=U) (vs:=ys.map fun x=>aa.ref x.2.1) (aY:=ys.map (·.1)) (Fv:=ys.map (·.1)) ⟨by simp,fun i v hv=>let ⟨b,h1,_,h3⟩:=each i v hv;⟨b,h1,h3⟩⟩ hsp (.refl _);obtain⟨zs,r1,zl,zv⟩:=Ws ho';rw[ek]at zl zv;have hln:H l=none:=I.hok.fresh hl';refine⟨.ref l,_,I.laid (t':=tk) k hl' (show gq X.prog X.w _ h' _ (.lst zs) from⟨?_,_,n,r1,hg⟩),rfl,q l zs hln zl zv⟩;have:(bO (bh.map (·.1))).length=(bh.map (·.1)).length:=(fH _).length_eq;rw[zl,this,d8];simp;lia
noncomputable def qR(j:Nat):aD->Rs D:=fun ρ=>match ρ[j]? with
 |some (.od kvs)=>if kvs.length < 4900/\∀p∈kvs,p.1≠[] then .ok (.lst ((bO (kvs.map (·.1))).map tupK)) else .no
 |_=>.no
theorem cM.keys{G:Hp}{kvs:List (List Int×D)}{bh:List (List Int×V)}(h:cM K G kvs bh):bh.map (·.1)=kvs.map (·.1):=by
 induction h with
 |nil=>rfl
 |cons r t ih=>rw[bX,bX,ih]
theorem zT(j:Nat) {x:Str}{p p1 pos:Pos}(hc:X.calm=true) (hm:X.mg "sorted"=none) (hN:X.N[j]?=some x:=by rfl) (hv:Gz X.env.scope x:=by first|exact Or.inl rfl|exact Or.inr (Or.inl rfl)|exact Or.inr (Or.inr rfl)) (hd:qx x:=by decide)
  (hcd:GP x:=by decide) (hg:Gl X "sorted":=by rfl) (he:bb [.Name x p1] X.env=[(false,bj (.Name x p1) X.env)]:=by rfl) :
  SE X B W (.Call (.Name "sorted" p) [.Name x p1] [] pos) (qR j):=by
 refine PE.imp (qF (Lx hc) hg hm v_ (gj (iw hN hv hd hcd) lF he) (by decide) (by decide) he rfl) fun σ H Q fU=>?_;obtain⟨ρ,G,s,pp⟩:=fU;unfold qR at pp;split at pp
 ·rename_i kvs q;split at pp
  ·rename_i hc2;obtain⟨a,o,h1,h2,h3,h4,U,bh,rfl,hU,hk⟩:=s.own j _ q rfl;have ek:=hk.keys;have el:bh.length=kvs.length:=by have:=congrArg ip ek;simpa using this
   refine⟨_,h1,a,U,bh,rfl,Ho h2,fun b ks z=>Same.iy s.en.gh (hU b ks z),by lia,fun p hp=>?_,fun l zs hl hz hv'=>?_⟩
   ·have:p.1∈kvs.map (·.1):=ek▸m_ hp;obtain⟨p',hp',e⟩:=dC.mp this;exact e▸hc2.2 p' hp'
   ·rw[ek]at hz hv';have x:=pB (xs:=zs) s.en.gh s.en.tp hl;refine pp _ _ _ x (bJ.mpr ⟨l,zs,rfl,.of aZ,(sH hz fun i v hv2=>?_).mono x.gg⟩);obtain⟨b,e1,e2⟩:=hv' i v hv2;exact⟨b,e1,hU b _ e2⟩
  ·exact pp.elim
 ·exact pp.elim
end
end Vl
namespace Zp
open PySem PySem.Spec
section
variable{prog:aS}{w:az}{A:ba}{E:aa->af->Prop}{s:af}
end
structure Ap (z TI TO i1 i2:ae)(f1 f2:List ae):Prop where
 zTI:TI≠z
 zTO:TO≠z
 TT:TI≠TO
 z1:z∉f1
 z2:z∉f2
 o1:TO∉f1
 o2:TO∉f2
 t1:TI∉f1
 t2:TI∉f2
 m1:i1∈f1
 m2:i2∈f2
 c1:i2∉f1
 c2:i1∉f2
section
variable{prog:aS}{w:az}{A:ba}{E:aa->af->Prop}{s:af}{z TI TO i1 i2:ae}{f1 f2:List ae}{n1 n2 k:Nat}{P1 P2:Nat->aa->Prop}{S1 S2:Nat->aE->Prop}{a b:aa}
end
section
variable{prog:aS}{w:az}{A:ba}{E:aa->af->Prop}{s:af}
end
end Zp
namespace L2
open PySem PySem.Spec PyProof.Rows
section
variable{X:Cx}
end
end L2
namespace Vl
open PySem PySem.Spec L2
section
variable{X:Cx}{B:Bs}{W:Wi}{K:ai}{G:Hp}
end
end Vl
namespace Vl
open PySem PySem.Spec PySem.Calls PySem.W L2
section
variable{X:Cx}{K:ai}{B:Bs}{W:Wi}{σ:St}{G H:Hp}{ρ:aD}
end
end Vl
namespace Vl
open PySem PySem.Spec L2
section
variable{X:Cx}{B:Bs}{W:Wi}{K:ai}
end
end Vl
namespace L2
open PySem PySem.Spec PyProof.Rows
section
variable{X:Cx}
end
end L2
namespace Vl
open PySem PySem.Spec L2
section
variable{X:Cx}{B:Bs}{W:Wi}{K:ai}{G:Hp}
end
end Vl
namespace L2
open PySem PySem.Spec PyProof.Rows
section
variable{X:Cx}
end
end L2
namespace Vl
open PySem PySem.Spec L2
section
variable{X:Cx}{B:Bs}{W:Wi}{K:ai}{G:Hp}
end
end Vl
namespace Tb
open PySem PySem.SetTable
noncomputable def wd(p:Probe)(d:Option Nat):Probe:={ p with dummy:=d }
noncomputable def Emp(t:b_)(j:Nat):Prop:=¬zc t j/\has t.dummies j=false
structure alv (t:b_)(L:List gC):Prop where
 pw:∃k,t.mask + 1=2 ^ k
 m7:7<=t.mask
 pl:t.place=(L.map (·.1)).toArray
 so:(L.map (·.1)).Pairwise (· < ·)
 le:∀e∈L,e.1<=t.mask
 dr:za t.dummies
 dj:∀e∈L,has t.dummies e.1=false
 fl:t.fill<=t.mask
 reach:∀e∈L,∃s,pos t e.2.1 s=e.1/\∀s',s' < s->¬Emp t (pos t e.2.1 s')
section
variable{t:b_}{L:List gC}
end
end Tb
namespace Tb
open PySem PySem.Spec PySem.SetTable
section
variable{prog:aS}{w:az}{A:ba}{E:aa->af->Prop}{s:af}
end
section
variable{prog:aS}{w:az}{U:ae->List Int->Prop}{A:ba}{E:aa->af->Prop}{s:af}
end
section
variable{prog:aS}{w:az}{U:ae->List Int->Prop}{A:ba}{E:aa->af->Prop}{s:af}
end
end Tb
namespace So
open PySem PySem.Spec PySem.W PyProof.Rows PySem.Calls PySem.SetTable Tb
section
variable{prog:aS}{w:az}{A:ba}{E:aa->af->Prop}{s:af}{U:ae->List Int->Prop}
end
end So
namespace Vl
open PySem PySem.Spec L2 So Tb
section
variable{X:Cx}{B:Bs}{W:Wi}
end
end Vl
namespace Vl
open PySem PySem.Spec L2 Dk
section
variable{prog:aS}{w:az}{A:ba}{E:aa->af->Prop}{s:af}
end
section
variable{X:Cx}{B:Bs}{W:Wi}
end
end Vl
namespace So
open PySem PySem.Spec PySem.W PyProof.Rows PySem.Calls Tb
section
variable{prog:aS}{w:az}{A:ba}{E:aa->af->Prop}{s:af}
section
variable{I S:ae}{fp wr:List ae}{G:Array kD->Array kD->Prop}{n:Nat}{P:Nat->aa->Prop}{St:Nat->af->Prop}{R:Result->af->Prop}{Kp:aE->Prop}{bt:Nat->Nat->Bool}
noncomputable def two(v:aa)(c:Nat):Obj:={ cls:=.type "list",dict:=none,data:=.seq #[v,v] c,slots:=#[] }
end
end
end So
namespace Vl
open PySem PySem.Spec L2 So
section
variable{X:Cx}{B:Bs}{W:Wi}{K:ai}
end
end Vl
namespace Vl
open PySem PySem.Spec L2
theorem Dh{K:Type}[DecidableEq K]{β:Type}{k:K}:∀{xs:List (K×β)}{j:Nat}{p:β},(xs.map (·.1)).Nodup->xs[j]?=some (k,p)->xs.eraseIdx j=xs.filter fun x=>!decide (x.1=k)
 | [],j,p,_,h=>by simp at h
 |x::xs,0,p,hn,h=>by
  simp only[rV,Option.some.injEq]at h;subst h;rw[bX,g_]at hn;have:∀y∈xs,(!decide (y.1=k))=true:=fun y hy=>by have:y.1≠k:=fun e=>hn.1 (dC.mpr ⟨y,hy,e⟩);simp[this]
  simp only[List.eraseIdx_cons_zero,eD,decide_true,eB,bz,if_false];exact(List.filter_eq_self.mpr this).symm
 |x::xs,j + 1,p,hn,h=>by simp only[rX]at h;rw[bX,g_]at hn;have hk:k∈xs.map (·.1):=dC.mpr ⟨(k,p),i7 h,rfl⟩;have ne:x.1≠k:=fun e=>hn.1 (e▸hk);rw[qk,eD,if_pos (by simp[ne]),Dh hn.2 h]
theorem Di{α β:Type}(f:α->β):∀(l:List α) (j:Nat),(l.map f).eraseIdx j=(l.eraseIdx j).map f
 | [],_=>rfl
 |_::_,0=>rfl
 |_::l,j + 1=>by simp[qk,Di f l j]
section
variable{prog:aS}{w:az}{K:Type}[DecidableEq K]{knd:HeapKind prog w K}{A:ba}{E:aa->af->Prop}{s:af}
theorem WT{d a:ae}{xs:List (K×ae×aa)}{k:K}{p:ae×aa}{Q:Option md->af->Prop}(hu:knd.room A)(hkey:knd.is s.heap k a)(hm:s.heap.DictOfH knd d xs)(hp:kz xs k=some p)
  (h:∀e h',e.val=p.2->h'.DictOfH knd d (xs.filter fun x=>!decide (x.1=k))->ef d s.heap h'->Q (some e) { s with heap:=h',toks:=s.toks + knd.draws k })
  (hsz:xs.length<=sizeLine):aw (ay prog w) A (cE.Dict.takeOut d (.ref a)) Q E s:=by
 obtain⟨o,es,ep,ho,hc,hd,he,his,hn⟩:=hm;have hes:es.size<=sizeLine:=by have:=wm he;omega
 unfold cE.Dict.takeOut
 try with_reducible refine fI ?_
 refine ah (knd.pyHash hu hkey (ah (wpAny_dictFind_heap (s:={ s with toks:=s.toks + knd.draws k }) hu hkey ho hd he his hn ?_ ?_)))
 ·intro hno;rw[atKey_none_of_get hno]at hp;cases hp
 ·intro j q hj;rw[atKey_of_get hn hj]at hp;cases hp;refine ah (m6 (s:={ s with toks:=s.toks + knd.draws k }) ho hd ?_);rw[entry_at he j,hj];have el:(es.eraseIdxIfInBounds j).toList=(xs.filter fun x=>!decide (x.1=k)).map (entryOfKey knd):=by rw[<- Dh hn hj,<- Di,<- he];obtain⟨l⟩:=es;simp
  refine ah (wpAny_updateDictKeys (hz:=hes) (s:={ s with toks:=s.toks + knd.draws k }) ho hd (aT (h _ _ rfl ⟨_,_,ep + 1,hV _ ho (Obj.isFreed_of_dict (Obj.data_mapDictKeys hd _)),
   hc.mapDictKeys _,Obj.data_mapDictKeys hd _,el,fun x hx=>knd.keeps (his x (fm.mp hx).1) ho hd (ki ..),?_⟩ (ki ..))))
  exact hn.sublist (List.Sublist.map _ uB)
theorem Ly(knd:HeapKind prog w K)(d a:ae) :
  MeetsIn prog w (Builtin.«dict.pop» ⟨[.ref d,.ref a],[]⟩) (fun A R s=>knd.room A.in1/\∃k xs p,knd.is s.heap k a/\s.heap.DictOfH knd d xs/\xs.length<=sizeLine/\kz xs k=some p /\
   ∀h',h'.DictOfH knd d (xs.filter fun x=>!decide (x.1=k))->ef d s.heap h'->R (.ok (.ret p.2)) { s with heap:=h',toks:=s.toks + knd.draws k }) :=
 .of_wp fun A R s ⟨hu,k,xs,p,hkey,hm,hsz,hp,h⟩=>by
  unfold Builtin.«dict.pop»;refine ah ?_;unfold cE.Dict.keyAndDefault;refine ah (wpAny_notOrdered_dict hm.typeIs ?_);show aw _ _ (pure (d,aa.ref a,none)) _ _ s;refine aT ?_;have hkp:(keyPart (.ref a)).isSome=false:=rfl;simp only[hkp,bz,if_false];obtain⟨o,es,ep,ho,hc,hd,he,his,hn⟩:=id hm;refine ah (m6 ho hd (ah (aT ?_)));have hne:es.isEmpty=false:=by
   have hs:=wm he;cases hx:xs with
   |nil=>rw[hx]at hp;cases hp
   |cons y ys =>
    rw[hx,ck]at hs;simp[Array.isEmpty,hs]
  simp only[hne,bz,if_false];refine ah (WT hu hkey hm hp (fun e h' hv hm' hs'=>?_) hsz);simp only[Option.isNone_some,bz,if_false];exact ah (wpAny_letGo (aT ⟨e.val,rfl,by rw[hv];exact h h' hm' hs'⟩))
theorem Lz(knd:HeapKind prog w K)(d:ae)(hd:(d == ik)=false) :
  MeetsIn prog w (Builtin.«dict.__len__» ⟨[.ref d],[]⟩) (fun _ R s=>∃xs,s.heap.DictOfH knd d xs/\R (.ok (.ret (.int xs.length s.toks))) { s with toks:=s.toks + 1 }) :=
 .of_wp fun A R s ⟨xs,hm,h⟩=>by obtain⟨o,es,ep,ho,hc,hdat,he,his,hn⟩:=hm;show aw _ _ (dictSize d >>= _) _ _ s;unfold dictSize;refine ah (ah (m6 ho hdat (aT ?_)));show aw _ _ (cE.Dict.pendingCount d >>= _) _ _ s;refine ah (wpAny_pendingCount_other hd ?_);refine wpAny_ret_mkInt ?_;have:es.size=xs.length:=wm he;rw[k9,this];exact h
theorem ajh{d:ae}{xs:List (K×ae×aa)}{Q:aa->af->Prop}(hd:(d == ik)=false)(hm:s.heap.DictOfH knd d xs)(hfit:(xs.length:Int) < 2 ^ 63)
  (h:Q (.int xs.length (s.toks + 1)) { s with toks:=s.toks + 1 + 1 }):aw (ay prog w) A (call (.builtin "len") [.ref d]) Q E s:=by
 refine Calls.call_function_entry kind_len plain_len entry_len (args_len1 _) ?_;unfold Builtin.«len»;refine ah (m:=oneArg "len" _) (aT ?_);refine ah (m:=callSpecial? (.ref d) (mP "__len__")) (oq (name:=mP "__len__") hm.typeIs we
  (call_meetsIn we hm.typeIs F.entry_dict_len (F.args_dict_len_1 _) (Lz knd d hd) ⟨xs,hm,?_⟩))
 show aw _ _ _ _ _ { s with toks:=s.toks + 1 };refine ah (fI (aT ?_));refine ah (wpAny_letGo ?_);show aw _ _ (if ((xs.length:Nat):Int) < 0 then _ else _) _ _ _;rw[if_neg (by omega)];show aw _ _ (if ((xs.length:Nat):Int) ≥ 2 ^ 63 then _ else _) _ _ _;rw[if_neg (by omega)];exact ah (wpAny_mkInt (aT ⟨_,rfl,h⟩))
end
section
variable{X:Cx}{B:Bs}{W:Wi}{K:ai}
noncomputable def WW(bh:List (List Int×V))(ks:List Int):List (List Int×V):=bh.filter fun p=>!decide (p.1=ks)
noncomputable def jB(kvs:List (List Int×D))(ks:List Int):List (List Int×D):=kvs.filter fun p=>!decide (p.1=ks)
theorem WX{U:ae->List Int->Prop}{ks:List Int}{bh:List (List Int×V)}{xs:List (List Int×ae×aa)}(r:DP U bh xs):DP U (WW bh ks) (xs.filter fun x=>!decide (x.1=ks)):=by
 induction r with
 |nil=>exact .nil
 | @cons p q _ _ r1 _ ih =>
  unfold WW at ih ⊢;by_cases c:p.1=ks
  ·have c':q.1=ks:=r1.1▸c;rw[eD,eD,if_neg (by simp[c]),if_neg (by simp[c'])];exact ih
  ·have c':¬q.1=ks:=fun z=>c (r1.1.trans z);rw[eD,eD,if_pos (by simp[c]),if_pos (by simp[c'])];exact .cons r1 ih
theorem cM.out{G:Hp}{ks:List Int}{kvs:List (List Int×D)}{bh:List (List Int×V)}(h:cM K G kvs bh):cM K G (jB kvs ks) (WW bh ks):=by
 induction h with
 |nil=>exact .nil
 | @cons k d v kvs bh r t ih =>
  unfold WW jB at ih ⊢;by_cases c:k=ks
  ·rw[eD,eD,if_neg (by simp[c]),if_neg (by simp[c])];exact ih
  ·rw[eD,eD,if_pos (by simp[c]),if_pos (by simp[c])];exact .cons r ih
noncomputable def WY(K:ai):V->List V->Hp->VK->Prop:=fun x vs H Q=>∃(b d:ae) (ks:List Int) (U:ae->List Int->Prop) (bh:List (List Int×V)) (v:V),x=.ref d/\vs=[.ref b]/\mX K H b (ks.map V.int)/\H d=some (.ext (jr U d bh))/\(∀b ks,U b ks->UG K H b ks) /\
 bh.length<=1000000/\sZ bh ks=some v/\Q v (upd H d (.ext (jr U d (WW bh ks))))
theorem aaV(hu:X.A.units + 1 < bu):MtR X "dict.pop" (WY X.K):=by
 intro pins s σ H x vs v us Q I rx rv ⟨b,d,ks,U,bh,w,e1,e2,hb,hd,hU,hz,hg,q⟩;subst e1;subst e2;cases rx;obtain⟨u,rfl,ru⟩:=rv.one;cases ru;obtain⟨xs,hm,hs,hp,_⟩:=FN I (Ho hd) hU;rcases vC (ks:=ks) hp with ⟨w1,w2⟩|⟨v',q',w1,w2,w3⟩
 ·rw[hg]at w1;cases w1
 ·rw[hg]at w1;cases w1;refine call_meetsIn F.slot_dict_pop hm.typeIs F.entry_dict_pop (F.args_dict_pop_2 _ _) (Ly (ng (cq X.prog X.w)) d b) ⟨wb hu,ks,xs,q',yj I hb,hm,by rw[<- o6 hp];exact sz6 hz,w2,fun h' hx' sb=>?_⟩;refine⟨_,_,I.write (x:=d) (e:=d) (t':=_) (by rw[hd];trivial) (.inl rfl) (fun b' u' ne e=>?_) ?_ (FP hx' hs (WX hp)),w3,q⟩
  ·exact(sb.2 b' ne).symm▸e
  ·obtain⟨o,_,_,e,_⟩:=hx';exact⟨o,e⟩
noncomputable def zU(j:Nat)(f:aD->Rs D):aD->Ou:=fun ρ=>match ρ[j]? with
 |some (.od kvs)=>oR (f ρ) ρ fun k=>(match tu k with
  |some ks=>if kvs.length<=1000000/\(iu kvs ks).isSome then .nx (ρ.set j (.od (jB kvs ks))) else .no
  |none=>.no)
 |_=>.no
theorem PJ{e:ag}{x:Str}{p1 p2 cp:Pos}{j:Nat}{t:TA}(hu:X.A.units + 1 < bu)(hv:PE X (.Name x p1) (yL j))(ha:PA X [e] t)
  (h1:kM (.Name x p1) "pop" X.env (bj (.Name x p1) X.env)=bj (.Name x p1) X.env) (h2:bb [e] X.env=[(false,bj e X.env)])
  (h3:((cS cp (bb [e] X.env)).all (fun q=>!q.1) && (kN cp (kP [] X.env)).all (fun q=>q.1.isSome) && decide (([e]:List ag).length + ([]:List fE).length + (if ([]:List fE).isEmpty then 0 else 1) < 30))=true)
  (h4:(p2.endLine == cp.line)=true) (h5:(cS cp (bb [] X.env)).any (·.1)=false) :
  PE X (.Call (.Attribute (.Name x p1) "pop" p2) [e] [] cp) (fun σ H Q=>∃(d0:ae) (U0:ae->List Int->Prop) (BJ:List (List Int×V)),σ[j]?=some (some (.ref d0))/\H d0=some (.ext (jr U0 d0 BJ))/\t σ H fun vs H2=>WY X.K (.ref d0) vs H2 Q):=by
 intro pins s σ H Q I ⟨d0,U0,BJ,g1,g2,g3⟩;refine wpAny_Call_method_late h1 h3 h4 rfl (jq (hv pins s σ H (fun y H1=>y=.ref d0/\H1=H) I ⟨_,g1,rfl,rfl⟩) fun v s1 ⟨y,H1,I1,r1,hy,hH⟩=>?_);subst hy;subst hH;cases r1;obtain⟨⟨o',es',ep',xs',w1,w2,_⟩,_,_⟩:=(show gq X.prog X.w H1 s1.heap d0 (.ext (jr U0 d0 BJ)) from I1.hok d0 _ g2)
 refine⟨"dict","dict.pop",F.plainAttrs_dict,F.slot_dict_pop,F.type_dict_pop,⟨o',w1,w2.1⟩,fun a ea=>?_,?_⟩
 ·cases ea;exact⟨o',w1,w2.2.1⟩
 have hA:=ha cp pins s1 σ H1 _ I1 g3;rw[h2]at hA ⊢;refine Calls.callWith_builtin (by show(false || (cS cp (bb [] X.env)).any (·.1))=false;rw[h5] <;> rfl) (sR ?_);exact jq hA fun us s2 ⟨vs,H2,I2,r2,q2⟩=>aaV hu pins s2 σ H2 (.ref d0) vs (.ref d0) us Q I2 rfl r2 q2
theorem Ga(j:Nat){x:Str}{e:ag}{pos p1 p2 cp:Pos}{f:aD->Rs D}(hu:X.A.units + 8 < bu)(he:SE X B W e f)(hN:X.N[j]?=some x:=by rfl)(hv:Gz X.env.scope x:=by first|exact Or.inl rfl|exact Or.inr (Or.inl rfl)|exact Or.inr (Or.inr rfl))(hd:qx x:=by decide)
  (hcd:GP x:=by decide) (hst:bb [e] X.env=[(false,bj e X.env)]:=by rfl)
  (hbase:kM (.Name x p1) "pop" X.env (bj (.Name x p1) X.env)=bj (.Name x p1) X.env:=by rfl)
  (hfew:((cS cp (bb [e] X.env)).all (fun x=>!x.1) && (kN cp (kP [] X.env)).all (fun x=>x.1.isSome)
   && decide (([e]:List ag).length + ([]:List fE).length + (if ([]:List fE).isEmpty then 0 else 1) < 30))=true:=by rfl)
  (hline:(p2.endLine == cp.line)=true:=by rfl) (hplain:(cS cp (bb [] X.env)).any (·.1)=false:=by rfl)
  (hs:dS (.Call (.Attribute (.Name x p1) "pop" p2) [e] [] cp) none pos.line X.env=pure false:=by rfl) :
  SS X B W (.Expr (.Call (.Attribute (.Name x p1) "pop" p2) [e] [] cp) pos) (zU j f):=by
 refine PS.imp (rO (PJ (ir (Nat.add_le_add_left (by decide) _) hu) (iw hN hv hd hcd) (gj he lF hst) hbase hst hfew hline hplain) hs) fun De σ H ⟨ρ,G,s,p⟩=>?_;unfold zU at p;cases e2:ρ[j]? with
 |none=>rw[e2]at p;exact p.elim
 |some z =>
  rw[e2]at p;cases z with
  |od kvs =>
   obtain⟨d0,U0,BJ,h1,h2,_⟩:=s.od e2;refine⟨d0,U0,BJ,h1,h2,ρ,G,s,gQ s p fun k v H' G' _ y r p'=>?_⟩;cases e1:tu k with
   |none=>rw[e1]at p';exact p'.elim
   |some ks =>
    rw[e1]at p';dsimp only at p';by_cases hc:kvs.length<=1000000/\(iu kvs ks).isSome
    ·rw[if_pos hc]at p';obtain⟨b',d1,U,bh,rfl,q1,q2,q3,q4,q5,q6,q7⟩:=WK s e2 y r e1;rw[h1]at q1;cases q1;rcases q7.get (ks:=ks) with ⟨w1,w2⟩|⟨dd,vv,w1,w2,w3⟩
     ·rw[w1]at hc;exact absurd hc.2 (by decide)
     ·refine⟨b',d0,ks,U,bh,vv,rfl,rfl,q2,q4,fun c js z=>q6 c js (q5 c js z),by rw[<- q7.len];exact hc.1,w2,?_⟩;exact p' σ _ G' ((s.ext y).uW e2 rfl h1 rfl ⟨U,_,rfl,q5,q7.out⟩) (.refl _)
    ·rw[if_neg hc]at p';exact p'.elim
  |_=>exact p.elim
theorem Rv:gZ X (.builtin "len") (fun xs H Q=>∃(a:ae) (U:ae->List Int->Prop) (bh:List (List Int×V)),xs=[.ref a]/\H a=some (.ext (jr U a bh))/\(∀b ks,U b ks->UG X.K H b ks)/\bh.length<=1000000/\Q (.int bh.length) H):=by intro pins s σ H xs us Q I r ⟨a,U,bh,e1,hH,hU,hz,q⟩;subst e1;obtain⟨u,rfl,rx⟩:=r.one;cases rx;obtain⟨ys,hm,hs,hp,_⟩:=FN I (Ho hH) hU;have hl:=o6 hp;exact ajh hs hm (by omega) ⟨.int bh.length,H,I.tok _,⟨s.toks + 1,by rw[hl]⟩,q⟩
noncomputable def zV(j:Nat):aD->Rs D:=fun ρ=>match ρ[j]? with
 |some (.od kvs)=>if kvs.length<=1000000 then .ok (.int kvs.length) else .no
 |_=>.no
theorem PK(j:Nat) {x:Str}{p p1 pos:Pos}(hm:X.mg "len"=none) (hN:X.N[j]?=some x:=by rfl) (hv:Gz X.env.scope x:=by first|exact Or.inl rfl|exact Or.inr (Or.inl rfl)|exact Or.inr (Or.inr rfl)) (hd:qx x:=by decide)
  (hcd:GP x:=by decide) (hg:Gl X "len":=by rfl) (he:bb [.Name x p1] X.env=[(false,bj (.Name x p1) X.env)]:=by rfl) :
  SE X B W (.Call (.Name "len" p) [.Name x p1] [] pos) (zV j):=by
 refine PE.imp (qF Rv hg hm PySem.boot_len (gj (iw hN hv hd hcd) lF he) (by decide) (by decide) he rfl) fun σ H Q ⟨ρ,G,s,pp⟩=>?_;unfold zV at pp;split at pp
 ·rename_i kvs q;split at pp
  ·rename_i hc2;obtain⟨a,o,h1,h2,h3,h4,U,bh,rfl,hU,hk⟩:=s.own j _ q rfl;have el:=hk.len;refine⟨_,h1,a,U,bh,rfl,h2,fun b ks z=>Same.iy s.en.gh (hU b ks z),by omega,?_⟩;have:=pp _ H G s.Bl (aX.mpr rfl);rw[<- el];exact this
  ·exact pp.elim
 ·exact pp.elim
end
end Vl
namespace Zp
open PySem PySem.Spec
section
variable{prog:aS}{w:az}{A:ba}{E:aa->af->Prop}{s:af}
end
end Zp
namespace L2
open PySem PySem.Spec PyProof.Rows
section
variable{X:Cx}
end
end L2
namespace Vl
open PySem PySem.Spec L2
section
variable{X:Cx}{B:Bs}{W:Wi}{K:ai}{G:Hp}
end
end Vl
namespace Vl
open PySem PySem.Spec PySem.Calls PySem.W L2
end Vl
namespace HT2
open PySem PySem.Spec PyProof.Rows HT
variable{prog:aS}{w:az}{A:ba}{E:aa->af->Prop}{s:af}
end HT2
namespace Vl
open PySem PySem.Spec PySem.Calls PySem.W L2
section
variable{X:Cx}{B:Bs}{W:Wi}
section
variable{K:ai}{σ:St}{G H:Hp}{ρ:aD}
end
end
end Vl
namespace Vl
open PySem PySem.Spec PySem.Calls PySem.W L2 PyProof.Rows
section
variable{X:Cx}{B:Bs}{W:Wi}
section
variable{K:ai}
end
section
variable{K:ai}
end
variable{a b:ag}{pos:Pos}{fa fb:aD->Rs D}
end
end Vl
namespace Vl
open PySem PySem.Spec L2 AutoSeq1
noncomputable abbrev aeC(xs:Array aa)(m:Nat)(sl:Array (Option aa)):Obj:={ cls:=.type "list",dict:=none,data:=.seq xs m,slots:=sl }
theorem LK{l b:ae}{xs ys:Array aa}{m k:Nat}{sl:Array (Option aa)}(c0:¬(!xs.isEmpty && pf (xs.size + ys.size))=true)(c1:xs.size<=sizeLine)(c2:xs.size + ys.size<=sizeLine + 1) :
  Meets (Builtin.«list.extend» ⟨[.ref l,.ref b],[]⟩) (fun _ R s=>s.heap.get? l=some (aeC xs m #[])/\s.heap.get? b=some (aeC ys k sl)/\R (.ok (.ret .none)) { s with heap:=s.heap.update l (eA fun x=>x++ys),toks:=s.toks }):=by
 refine .of_wp fun prog w A R s h=>?_;obtain⟨hp,g,d,tk,os⟩:=s;obtain⟨h1,h2,h3⟩:=h;have f1:=idx_int;have f2:=sub_tuple_tuple;have f3:=sub_list_list;have f4:=sub_tuple_list;have f5:=sub_list_tuple;have z:(xs++ys).size<=sizeLine + 1:=by rw[ly];exact c2
 wp_walk using(ox h1 rfl (hz:=c1) (_hz':=z)),wpAny_loadPart' h1,wpAny_loadPart' h2
 exact⟨_,rfl,h3⟩
section
variable{X:Cx}{B:Bs}{W:Wi}{K:ai}
noncomputable def acn(K:ai):V->List V->Hp->VK->Prop:=fun x vs H Q=>∃l b xs zs,x=.ref l/\vs=[.ref b]/\H l=some (.lst xs)/\qp K H b zs/\xs.length + zs.length<=sizeLine/\Q .non (upd H l (.lst (xs++zs)))
theorem aaW:MtM X "list.extend" (acn X.K):=by
 intro pins s σ H x vs v us Q I rx rv ⟨l,b,xs,zs,e1,e2,hH,hB,hz,q⟩;subst e1;subst e2;cases rx;obtain⟨u,rfl,ru⟩:=rv.one;cases ru;obtain⟨z,its,n,r,hl,e⟩:=I.agm hH;have hb:∃(its2:List aa) (n2:Nat) (sl:Array (Option aa)),Vals zs its2/\s.heap.get? b=some (aeC its2.toArray n2 sl):=by
  rcases hB with h|⟨o,its2,n2,hk,hc,hd,hs,hz2,r2⟩
  ·obtain⟨z2,its2,n2,r2,e2⟩:=h.ok I.hok;exact⟨its2,n2,#[],r2,e2⟩
  ·refine⟨its2.toList,n2,o.slots,r2,?_⟩;rw[I.GR b o hk];cases o;simp only at hc hd hs;subst hc;subst hd;subst hs;rfl
 obtain⟨its2,n2,sl,r2,w2⟩:=hb;have l2:=r2.length;have le:its.length + its2.length<=sizeLine:=by lia
 have c:¬(!its.toArray.isEmpty && pf (its.length + its2.length))=true:=fun y=>by have:=(kT _ _▸y).2;rw[Tv le]at this;cases this
 have m:=LK (l:=l) (b:=b) (xs:=its.toArray) (ys:=its2.toArray) (m:=n) (k:=n2) (sl:=sl) c (cx (qh _ _) le) (Nat.le_succ_of_le le);refine call_meets F.slot_list_extend ⟨_,e,rfl⟩ F.entry_list_extend (F.args_list_extend_2 _ _) m ⟨e,w2,.non,_,?_,rfl,q⟩;exact I.agk (its':=its++its2) hH e (by simp) (r.append r2) (by rw[dn];exact hz)
noncomputable def Jh(i:Nat)(f:aD->Rs D):aD->Ou:=fun ρ=>match ρ[i]? with
 |some (.ow ds)=>oR (f ρ) ρ fun d=>(match d with
  | .lst es=>if ds.length + es.length<=1000000 then .nx (ρ.set i (.ow (ds++es))) else .no
  |_=>.no)
 |_=>.no
theorem aaX{i:Nat}{x:Str}{e:ag}{pos p1 p2 cp:Pos}{f:aD->Rs D}(he:SE X B W e f)
  {pe:PE X (.Call (.Attribute (.Name x p1) "extend" p2) [e] [] cp) (tBM X.K "list" (acn X.K) (yL i) (Tf (tF X.K B W f) adk))}
  (hs:dS (.Call (.Attribute (.Name x p1) "extend" p2) [e] [] cp) none pos.line X.env=pure false:=by rfl) :
  SS X B W (.Expr (.Call (.Attribute (.Name x p1) "extend" p2) [e] [] cp) pos) (Jh i f):=by
 refine PS.imp (rO pe hs) fun De σ H fU=>?_;obtain⟨ρ,G,s,p⟩:=fU;unfold Jh at p;cases q:ρ[i]? with
 |none=>rw[q]at p;exact p.elim
 |some z =>
  rw[q]at p;cases z with
  |no=>exact p.elim
  |fz d=>exact p.elim
  |od _=>exact p.elim
  |op _=>exact p.elim
  |oe _=>exact p.elim
  |ow ds =>
   obtain⟨a,vs,e1,h2,h3,h4,h5⟩:=s.ow i ds q;refine⟨_,e1,.inl ⟨rfl,vs,.of h2⟩,ρ,G,s,gQ s p fun d v H' G' _ x r p'=>?_⟩;cases d with
   |lst es =>
    dsimp only at p';by_cases hl:ds.length + es.length<=1000000
    ·rw[if_pos hl]at p';have s':=s.ext x;obtain⟨b,us,rfl,q2,rr⟩:=bJ.mp r;refine⟨a,b,vs,us,rfl,rfl,x.hh _ _ h2,x.gh.seq q2,by rw[<- h5.length,<- rr.length];exact sz6 hl,?_⟩;exact p' σ _ G' (s'.write q e1 ((h5.mono x.gg).append rr)) (.refl _)
    ·rw[if_neg hl]at p';exact p'.elim
   |_=>exact p'.elim
theorem aaY(i:Nat){x:Str}{e:ag}{pos p1 p2 cp:Pos}{f:aD->Rs D}(he:SE X B W e f)(hN:X.N[i]?=some x:=by rfl)(hv:Gz X.env.scope x:=by first|exact Or.inl rfl|exact Or.inr (Or.inl rfl)|exact Or.inr (Or.inr rfl))(hd:qx x:=by decide)
  (hcd:GP x:=by decide) (hst:bb [e] X.env=[(false,bj e X.env)]:=by rfl)
  (hbase:kM (.Name x p1) "extend" X.env (bj (.Name x p1) X.env)=bj (.Name x p1) X.env:=by rfl)
  (hfew:((cS cp (bb [e] X.env)).all (fun x=>!x.1) && (kN cp (kP [] X.env)).all (fun x=>x.1.isSome)
   && decide (([e]:List ag).length + ([]:List fE).length + (if ([]:List fE).isEmpty then 0 else 1) < 30))=true:=by rfl)
  (hline:(p2.endLine == cp.line)=true:=by rfl) (hplain:(cS cp (bb [] X.env)).any (·.1)=false:=by rfl)
  (hs:dS (.Call (.Attribute (.Name x p1) "extend" p2) [e] [] cp) none pos.line X.env=pure false:=by rfl) :
  SS X B W (.Expr (.Call (.Attribute (.Name x p1) "extend" p2) [e] [] cp) pos) (Jh i f) :=
 aaX (pe:=Tt wa PySem.F.slot_list_extend PySem.F.type_list_extend aaW (iw hN hv hd hcd) (gj he lF hst) hbase hfew hline hst hplain) he hs
end
end Vl
namespace Vl
open PySem PySem.Spec L2
section
variable{X:Cx}{B:Bs}{W:Wi}{K:ai}
variable{o e:ag}{apos cpos:Pos}{fo fe:aD->Rs D}
end
end Vl
namespace Vl
open PySem PySem.Spec PySem.Calls PySem.W L2
noncomputable def PL(H:Hp)(a:ae):Hp:=fun b=>if b=a then none else H b
theorem lH{H:Hp}{a b:ae}(h:b≠a):PL H a b=H b:=if_neg h
theorem vG{H:Hp}{a:ae}:PL H a a=none:=if_pos rfl
theorem zW{H:Hp}{a b:ae}{o:HO}(h:PL H a b=some o):b≠a/\H b=some o:=by
 by_cases e:b=a
 ·subst e;rw[vG]at h;cases h
 ·rw[lH e]at h;exact⟨e,h⟩
noncomputable def alx:Sl->Option (List D)
 | .ow ds=>some ds
 | .op ds=>some ds
 |_=>none
section
variable{X:Cx}{K:ai}{B:Bs}{W:Wi}{σ:St}{G H G' H':Hp}{ρ:aD}
end
noncomputable def spF(K:ai)(n:Nat)(g:List D->Rs (List D)):Sp:=fun vs H Q E=>vs.length=n/\∃G ds,Ex0 K G H/\bD K G ds vs/\(match g ds with
 | .ok es=>∀a ws H' G',Ext G H G' H'->G' a=none->H a=none->H' a=some (.lst ws)->bD K G' es ws->Q (.ref a) H'
 |_=>False)
noncomputable def Okf(P:aS)(w:az)(K:ai)(mg:Str->Option aa)(base:aE)(x:Str)(k n:Nat)(v:List D->Rs (List D)):Prop :=
 ∃f fd ps,qD P w K mg base (wC P w K) k f fd ps (spF K n v)/\mg x=some (.ref f)/\g9 K (.ref f)=true/\Binds K fd ps []
section
variable{X:Cx}{K:ai}{B:Bs}{W:Wi}{σ:St}{G H G' H':Hp}{ρ:aD}
theorem zX{x:Str}{p pos:Pos}{e:ag}{es:List ag}{t:TA}{f:ae}{fd:df}{ps:List Str}{k:Nat}{sp:Sp}(F:qD X.prog X.w X.K X.mg X.base (wC X.prog X.w X.K) k f fd ps sp)(hr:jt k X.A)(hg:Gl X x)(hm:X.mg x=some (.ref f))(hk:g9 X.K (.ref f)=true)(hb:Binds X.K fd ps [])
  (ha:PA X (e::es) t) (hdb:qx x:=by decide) (he:bb (e::es) X.env=(false,bj e X.env)::bb es X.env:=by rfl) (hpl:(cS pos (bb es X.env)).any (·.1)=false:=by rfl) :
  PE X (.Call (.Name x p) (e::es) [] pos) (fun σ H Q=>t σ H fun vs H1=>sp vs H1 Q fun _ _ _=>False):=by
 intro pins s σ H Q I h;refine nL (xX I hg hm ?_ hdb);refine tw (h₀:=X.base) I.ok.mod.RN hk (jq (ha pos pins s σ H _ I h) fun us s1 ⟨vs,H1,I1,r,q⟩=>⟨I1.GR,?_⟩) he hpl;have hl:(us++[]).length=ps.length:=by rw[dP,<- r.length];exact F.len _ _ _ _ q
 have hbb:=hb s1 us I1.GR hl;rw[dP]at hbb;refine pj (kQ (F.run X.A X.stack s1 H1 ⟨us,[]⟩ us vs Q _ hr I1.env0 hbb r q) fun r s' hq=>?_);cases r with
 |error e=>obtain⟨ea,c,n,H',_,_,_,_,_,_,w⟩:=hq;exact w.elim
 |ok fl =>
  cases fl with
  |ret u=>exact I1.after hq
  |next=>exact eM hq
  |brk=>exact eM hq
  |cont=>exact eM hq
noncomputable def Ji(i n:Nat)(g:List D->Rs (List D))(fs:aD->Rs (List D)):aD->Ou:=fun ρ=>oR (fs ρ) ρ fun ds=>if ds.length=n then (match g ds with|.ok es=>.nx (ρ.set i (.ow es))|_=>.no) else .no
theorem aaZ(i:Nat){x y:Str}{p pos pos' cp:Pos}{e:ag}{es:List ag}{fs:aD->Rs (List D)}{k n kr:Nat}{g:List D->Rs (List D)}(O:Okf X.prog X.w X.K X.mg X.base x k n g)(hr:jt kr X.A)(hN:X.N.Nodup)(ha:SA X B W (e::es) fs)(hi:X.N[i]?=some y:=by rfl)(hx:Kg X.env.scope y:=by first|exact Or.inl rfl|exact Or.inr rfl)
  (hs:dS (.Call (.Name x p) (e::es) [] cp) (some (.Name y pos')) pos.line X.env=pure false:=by rfl) (hf:X.fn y=true∨X.env.scope.names.lookup y=some .local:=by first|exact .inl rfl|exact .inr rfl|assumption) (hg:Gl X x:=by rfl) (hdb:qx x:=by decide)
  (he:bb (e::es) X.env=(false,bj e X.env)::bb es X.env:=by rfl) (hpl:(cS cp (bb es X.env)).any (·.1)=false:=by rfl) (hkr:k<=kr:=by decide) :
  SS X B W (.Assign [.Name y pos'] (.Call (.Name x p) (e::es) [] cp) pos) (Ji i n g fs):=by
 obtain⟨f,fd,ps,F,hm,hk,hb⟩:=O
 replace hr:=hr.mono hkr
 refine PS.imp (yN hN hi hx (zX F hr hg hm hk hb ha hdb he hpl) hs hf) fun De σ H ⟨ρ,G,s,p⟩=>⟨ρ,G,s,?_⟩
 unfold Ji at p;cases e:fs ρ with
 |ok ds =>
  rw[e]at p;dsimp only[oR]at p;by_cases hl:ds.length=n
  ·rw[if_pos hl]at p;intro vs H1 G1 x r;refine⟨by rw[<- r.length];exact hl,G1,ds,(s.ext x).ex0,r,?_⟩;cases e1:g ds with
   |ok es' =>
    rw[e1]at p;dsimp only at p ⊢;intro a ws H' G' y g1 h1 h2 r2;have s1:=s.ext x
    let H2:Hp:=PL H' a
    have y2:Ext G1 H1 G' H2:=⟨y.gg,fun b o w=>by
      show PL H' a b=some o;rw[lH (aR w h1)];exact y.hh b o w,fun b o w=>by
      show PL H' a b=some o;rw[lH (aR w g1)];exact y.gh b o w,fun b xs w=>y.tp b xs (zW w).2,y.nw⟩
    have s2:=(s1.ext y2).abS (i:=i) (p:=a) r2 vG;have e2:upd H2 a (.lst ws)=H':=by
     funext b;by_cases w:b=a
     ·subst w;rw[aZ];exact h2.symm
     ·rw[aW w];exact lH w
    rw[e2]at s2;exact p _ H' G' s2 (x.gg.trans y.gg)
   |ex c m=>rw[e1]at p;exact p.elim
   |no=>rw[e1]at p;exact p.elim
  ·rw[if_neg hl]at p;exact p.elim
 |ex c m=>rw[e]at p;exact fun H1 G1 x=>p σ H1 G1 (s.ext x) x.gg
 |no=>rw[e]at p;exact p
end
noncomputable def lf{α:Type}(r:Rs α)(ρ:aD):Rs (α×aD):=match r with
 | .ok a=>.ok (a,ρ)
 |_=>.no
noncomputable def bx{α β:Type}(r:Rs (α×aD))(k:α->aD->Rs (β×aD)):Rs (β×aD):=match r with
 | .ok (a,ρ)=>k a ρ
 |_=>.no
noncomputable def oX{α:Type}(r:Rs (α×aD))(k:α->aD->Ou):Ou:=match r with
 | .ok (a,ρ)=>k a ρ
 |_=>.no
noncomputable def tV(K:ai)(B:Bs)(σ:St)(G:Hp)(r:Rs (D×aD))(Q:VK):Prop:=match r with
 | .ok (d,ρ')=>∀v H' G',SR K B σ H' ρ' G'->Same G G'->Rep K G' d v->Q v H'
 |_=>False
noncomputable def Xa(K:ai)(B:Bs)(σ:St)(G:Hp)(r:Rs (List D×aD))(Q:List V->Hp->Prop):Prop:=match r with
 | .ok (ds,ρ')=>∀vs H' G',SR K B σ H' ρ' G'->Same G G'->bD K G' ds vs->Q vs H'
 |_=>False
noncomputable def tX(K:ai)(B:Bs)(f:aD->Rs (D×aD)):TE:=fun σ H Q=>∃ρ G,SR K B σ H ρ G/\tV K B σ G (f ρ) Q
noncomputable def tAX(K:ai)(B:Bs)(f:aD->Rs (List D×aD)):TA:=fun σ H Q=>∃ρ G,SR K B σ H ρ G/\Xa K B σ G (f ρ) Q
noncomputable def SX(X:Cx)(B:Bs)(e:ag)(f:aD->Rs (D×aD)):Prop:=PE X e (tX X.K B f)
noncomputable def SAX(X:Cx)(B:Bs)(es:List ag)(f:aD->Rs (List D×aD)):Prop:=PA X es (tAX X.K B f)
noncomputable def xP(f:aD->Rs D):aD->Rs (D×aD):=fun ρ=>lf (f ρ) ρ
noncomputable def xPA(f:aD->Rs (List D)):aD->Rs (List D×aD):=fun ρ=>lf (f ρ) ρ
section
variable{X:Cx}{K:ai}{B:Bs}{W:Wi}{σ:St}{G H G' H':Hp}{ρ:aD}
theorem tV.same{r:Rs (D×aD)}{Q:VK}(h:tV K B σ G r Q)(e:Same G G'):tV K B σ G' r Q:=by
 cases r with
 |ok p=>obtain⟨d,ρ'⟩:=p;exact fun v H' G'' s q=>h v H' G'' s (e.trans q)
 |_=>exact h
theorem abb{r:Rs D}{Q:VK}(s:SR K B σ H ρ G)(p:tV K B σ G (lf r ρ) Q):Post K W σ G H r Q:=by
 cases r with
 |ok d=>exact fun v H' G' e r=>p v H' G' (s.ext e) e.gg r
 |ex c n=>exact p.elim
 |no=>exact p.elim
theorem aeD{r:Rs (List D×aD)}{k:List D->aD->Rs (D×aD)}{Q:VK}{Q':List V->Hp->Prop}(p:tV K B σ G (bx r k) Q)(h:∀d ρ1 v H1 G1,SR K B σ H1 ρ1 G1->Same G G1->bD K G1 d v->tV K B σ G1 (k d ρ1) Q->Q' v H1):Xa K B σ G r Q':=by
 cases r with
 |ok x=>obtain⟨d,ρ1⟩:=x;exact fun v H1 G1 s q r=>h d ρ1 v H1 G1 s q r (tV.same (show tV K B σ G (k d ρ1) Q from p) q)
 |ex c n=>exact p.elim
 |no=>exact p.elim
theorem aji{e:ag}{f:aD->Rs D}(h:SE X B W e f):SX X B e (xP f):=PE.imp h fun σ H Q ⟨ρ,G,s,p⟩=>⟨ρ,G,s,abb s p⟩
theorem aha{es:List ag}{f:aD->Rs (List D)}(h:SA X B W es f):SAX X B es (xPA f):=PA.imp h fun σ H Q ⟨ρ,G,s,p⟩=>by
 refine⟨ρ,G,s,?_⟩;unfold xPA at p;cases e1:f ρ with
 |ok b=>rw[e1]at p;exact fun vs H' G' y r=>p vs H' G' (s.ext y) y.gg r
 |ex c n=>rw[e1]at p;exact p.elim
 |no=>rw[e1]at p;exact p.elim
section
variable{x:Str}{p pos:Pos}{e:ag}{es:List ag}{id T:String}{r:List V->Hp->VK->Prop}{g:List D->Rs D}{fs:aD->Rs (List D×aD)}
end
variable{a b:ag}{pos:Pos}{fa fb:aD->Rs (D×aD)}
end
end Vl
namespace Vl
open PySem PySem.Spec PySem.Calls PySem.W L2 So
noncomputable def ahb(f:aD->Rs (D×aD)):aD->Ou:=fun ρ=>oX (f ρ) fun d ρ1=>.rx d ρ1
noncomputable def PN(i:Nat)(f:aD->Rs (D×aD)):aD->Ou:=fun ρ=>match ρ[i]? with
 |some (.ow _)=>oX (f ρ) fun d ρ1=>(match ρ1[i]? with
  |some (.ow ds)=>if ds.length < 1000000 then .nx (ρ1.set i (.ow (ds++[d]))) else .no
  |_=>.no)
 |_=>.no
section
variable{X:Cx}{K:ai}{B:Bs}{W:Wi}{σ:St}{G H G' H':Hp}{ρ:aD}{De:Ends}
theorem Jj{r:Rs (D×aD)}{k:D->aD->Ou}{Q:VK}(p:cL K B W G (oX r k) De)(h:∀d ρ1 v H1 G1,SR K B σ H1 ρ1 G1->Same G G1->Rep K G1 d v->cL K B W G1 (k d ρ1) De->Q v H1):tV K B σ G r Q:=by
 cases r with
 |ok x=>obtain⟨d,ρ1⟩:=x;exact fun v H1 G1 s q r=>h d ρ1 v H1 G1 s q r (cL.same (show cL K B W G (k d ρ1) De from p) q)
 |ex c n=>exact p.elim
 |no=>exact p.elim
theorem aeE{e:ag}{pos}{f:aD->Rs (D×aD)}(h:SX X B e f):SS X B W (.Return (some e) pos) (ahb f) :=
 PS.imp (DK h) fun De σ H ⟨ρ,G,s,p⟩=>⟨ρ,G,s,Jj (k:=fun d ρ1=>.rx d ρ1) p fun d ρ1 v H1 G1 s1 q1 r1 p1=>p1 v σ H1 G1 s1 (.refl _) r1⟩
theorem abd(i:Nat){x:Str}{e:ag}{pos p1 p2 cp:Pos}{f:aD->Rs (D×aD)}(he:SX X B e f)(hN:X.N[i]?=some x:=by rfl)(hv:Gz X.env.scope x:=by first|exact Or.inl rfl|exact Or.inr (Or.inl rfl)|exact Or.inr (Or.inr rfl))(hd:qx x:=by decide)
  (hcd:GP x:=by decide) (hst:bb [e] X.env=[(false,bj e X.env)]:=by rfl)
  (hbase:kM (.Name x p1) "append" X.env (bj (.Name x p1) X.env)=bj (.Name x p1) X.env:=by rfl)
  (hfew:((cS cp (bb [e] X.env)).all (fun x=>!x.1) && (kN cp (kP [] X.env)).all (fun x=>x.1.isSome)
   && decide (([e]:List ag).length + ([]:List fE).length + (if ([]:List fE).isEmpty then 0 else 1) < 30))=true:=by rfl)
  (hline:(p2.endLine == cp.line)=true:=by rfl) (hplain:(cS cp (bb [] X.env)).any (·.1)=false:=by rfl)
  (hs:dS (.Call (.Attribute (.Name x p1) "append" p2) [e] [] cp) none pos.line X.env=pure false:=by rfl) :
  SS X B W (.Expr (.Call (.Attribute (.Name x p1) "append" p2) [e] [] cp) pos) (PN i f):=by
 refine PS.imp (rO (Tt wa PySem.F.slot_list_append PySem.F.type_list_append vZ (iw hN hv hd hcd) (gj he lF hst) hbase hfew hline hst hplain) hs) fun De σ H ⟨ρ,G,s,p⟩=>?_;unfold PN at p;cases q:ρ[i]? with
 |none=>rw[q]at p;exact p.elim
 |some z =>
  rw[q]at p;cases z with
  |ow ds0 =>
   obtain⟨a,vs0,e1,h2,h3,h4,h5⟩:=s.ow i ds0 q;refine⟨_,e1,.inl ⟨rfl,vs0,.of h2⟩,ρ,G,s,Jj (k:=fun d ρ1=>(match ρ1[i]? with
    |some (.ow ds)=>if ds.length < 1000000 then .nx (ρ1.set i (.ow (ds++[d]))) else .no
    |_=>.no)) p fun d ρ1 v H1 G1 s1 q1 r1 p1=>?_⟩
   cases e3:ρ1[i]? with
   |none=>rw[e3]at p1;exact p1.elim
   |some z1 =>
    rw[e3]at p1;cases z1 with
    |ow ds =>
     dsimp only at p1;by_cases hc:ds.length < 1000000
     ·rw[if_pos hc]at p1;obtain⟨b,vs,k1,k2,k3,k4,k5⟩:=s1.ow i ds e3;have eb:b=a:=by rw[e1]at k1;injection k1 with z;injection z with z;injection z with z;exact z.symm
      subst eb;exact⟨b,vs,v,rfl,rfl,k2,by rw[<- k5.length];exact d5 hc (by rw[d8];decide),p1 σ _ G1 (s1.write e3 e1 (k5.append (.one r1))) (.refl _)⟩
     ·rw[if_neg hc]at p1;exact p1.elim
    |_=>exact p1.elim
  |_=>exact p.elim
end
section
variable{X:Cx}{K:ai}{B:Bs}{W:Wi}{σ:St}{G H G' H':Hp}{ρ:aD}{a b:ag}{pos:Pos}{fa fb:aD->Rs (D×aD)}
section
variable{x:Str}{p1:Pos}{fb:aD->Rs D}(j:Nat)(hu:X.A.units + 8 < bu)(hb:SE X B W b fb)(hN:X.N[j]?=some x)(hv:Gz X.env.scope x)(hd:qx x)(hcd:GP x)
end
end
end Vl
namespace Vl
open PySem PySem.Spec L2 AutoSeq1
section
variable{X:Cx}{B:Bs}{W:Wi}{K:ai}
end
end Vl
namespace Vl
open PySem PySem.Spec L2
mutual
noncomputable def Jk:D->Bool
 | .non=>true
 | .bl _=>true
 | .int _=>true
 | .str _=>true
 | .tup ds=>Jl ds
 |_=>false
noncomputable def Jl:List D->Bool
 | []=>true
 |d::ds=>Jk d && Jl ds
end
noncomputable def Zh(G:Hp)(a:ae):Hp:=fun b=>if b=a then none else G b
theorem wO{G:Hp}{a b:ae}(h:b≠a):Zh G a b=G b:=if_neg h
theorem Xb{G:Hp}{a:ae}:Zh G a a=none:=if_pos rfl
section
variable{X:Cx}{B:Bs}{W:Wi}{K:ai}{G H:Hp}{σ:L2.St}{ρ:aD}{a:ae}{vs:List V}
theorem aeF{b:ae}{xs:List V}(h:G a=some (.lst vs))(r:mX K G b xs):mX K (Zh G a) b xs:=by
 rcases r with (r|⟨o,r⟩)|r
 ·have:b≠a:=fun z=>by rw[z,h]at r;cases r
  exact .inl (.inl (by rw[wO this];exact r))
 ·have:b≠a:=fun z=>by rw[z,h]at r;cases r
  exact .inl (.inr ⟨o,by rw[wO this];exact r⟩)
 ·exact .inr r
mutual
theorem PX(h:G a=some (.lst vs)):∀{d:D}{v:V},Jk d=true->Rep K G d v->Rep K (Zh G a) d v
 | .non,v,_,r=>pA.mpr (pA.mp r)
 | .bl b,v,_,r=>cZ.mpr (cZ.mp r)
 | .int i,v,_,r=>aX.mpr (aX.mp r)
 | .str i,v,_,r=>rR.mpr (rR.mp r)
 | .tup ds,v,n,r=>by obtain⟨b,us,e,q,rr⟩:=bN.mp r;exact bN.mpr ⟨b,us,e,aeF h q,Jm h (by unfold Jk at n;exact n) rr⟩
 | .lst _,v,n,r=>by unfold Jk at n;cases n
 | .GF _ _,v,n,r=>by unfold Jk at n;cases n
 | .GJ _ _,v,n,r=>by unfold Jk at n;cases n
 | .fn _,v,n,r=>by unfold Jk at n;cases n
 | .obj _ _ _,v,n,r=>by unfold Jk at n;cases n
theorem Jm(h:G a=some (.lst vs)):∀{ds:List D}{us:List V},Jl ds=true->bD K G ds us->bD K (Zh G a) ds us
 | [],us,_,r=>bA.mpr (bA.mp r)
 |d::ds,us,n,r=>by obtain⟨v,ws,e,r1,r2⟩:=aV.mp r;unfold Jl at n;have n:=kT _ _▸n;exact aV.mpr ⟨v,ws,e,PX h n.1 r1,Jm h n.2 r2⟩
end
theorem SR.lend(h:SR K B σ H ρ G){i:Nat}{ds:List D}(q:ρ[i]?=some (.ow ds)):∃a vs,H a=some (.lst vs)/\G a=none/\SR K B σ H (ρ.set i (.fz (.lst ds))) (upd G a (.lst vs)):=by
  obtain⟨a,vs,e1,h2,h3,h4,h5⟩:=h.ow i ds q;have hl:i < ρ.length:=(dm.mp q).1;have gg:Same G (upd G a (.lst vs)):=fun b o z=>by rw[aW (aR z h3)];exact z
  refine⟨a,vs,h2,h3,⟨h.en.gg.trans gg,h.en.hh,fun b o z=>?_,fun b xs z=>?_,fun b o z w=>?_⟩,by simp[h.len],fun j d z=>?_,fun j fs z wz=>?_,fun j k fs gs c z1 w1 z2 w2 z3 z4=>?_,fun j es c z1 wl z2=>?_,h.co⟩
  ·by_cases w:b=a
   ·subst w;rw[aZ]at z;cases z;exact h2
   ·rw[aW w]at z;exact h.en.gh b o z
  ·by_cases w:b=a
   ·subst w;rw[h2]at z;cases z
   ·rw[aW w];exact h.en.tp b xs z
  ·rw[aW (aR z h4)];exact h.en.nw b o z w
  ·by_cases e:i=j
   ·subst e;rw[dy hl]at z;cases z;exact⟨_,e1,bJ.mpr ⟨a,vs,rfl,.of aZ,h5.mono gg⟩⟩
   ·rw[cK e]at z;obtain⟨v,w1,w2⟩:=h.fz j d z;exact⟨v,w1,w2.mono gg⟩
  ·by_cases e:i=j
   ·subst e;rw[dy hl]at z;cases z;cases wz
   ·rw[cK e]at z;obtain⟨b,us,w1,w2,w3,w4,w5⟩:=h.own j fs z wz;have hne:b≠a:=fun w=>by subst w;exact e (h.ap i j _ fs b q rfl z wz e1 w1)
    exact⟨b,us,w1,w2,by rw[aW hne];exact w3,w4,w5.mono gg⟩
  ·have nj:i≠j:=fun e=>by subst e;rw[dy hl]at z1;cases z1;cases w1
   have nk:i≠k:=fun e=>by subst e;rw[dy hl]at z2;cases z2;cases w2
   rw[cK nj]at z1;rw[cK nk]at z2;exact h.ap j k fs gs c z1 w1 z2 w2 z3 z4
  ·have nj:i≠j:=fun e=>by subst e;rw[dy hl]at z1;cases z1;cases wl
   rw[cK nj]at z1;exact h.tie j es c z1 wl z2
theorem yp{G2 H2:Hp}(h2:H a=some (.lst vs))(h3:G a=none)(x:Ext (upd G a (.lst vs)) H G2 H2):Ext G H (Zh G2 a) H2:=by
 refine⟨fun b o z=>?_,x.hh,fun b o z=>?_,fun c xs z=>?_,fun b o z w=>?_⟩
 ·have ne:=aR z h3;rw[wO ne];exact x.gg b o (by rw[aW ne];exact z)
 ·by_cases e:b=a
  ·rw[e,Xb]at z;cases z
  ·rw[wO e]at z;exact x.gh b o z
 ·have ne:c≠a:=fun e=>by rw[e,x.hh a _ h2]at z;cases z
  rw[wO ne];exact x.tp c xs z
 ·by_cases e:b=a
  ·rw[e];exact Xb
  ·rw[wO e];exact x.nw b o z (by rw[aW e];exact w)
noncomputable def xJ(i:Nat)(f:aD->Rs D):aD->Rs D:=fun ρ=>match ρ[i]? with
 |some (.ow ds)=>(match f (ρ.set i (.fz (.lst ds))) with
  | .ok d=>if Jk d then .ok d else .no
  |r=>r)
 |_=>.no
theorem Gb(i:Nat){e:ag}{f:aD->Rs D}(h:SE X B W e f):SE X B W e (xJ i f):=by
 intro pins s σ H Q I ⟨ρ,G,r,p⟩;unfold xJ at p;cases q:ρ[i]? with
 |none=>rw[q]at p;exact p.elim
 |some z =>
  rw[q]at p;cases z with
  |ow ds =>
   obtain⟨a,vs,h2,h3,r'⟩:=r.lend q;refine h pins s σ H Q I ⟨_,_,r',?_⟩;dsimp only at p;cases e2:f (ρ.set i (.fz (.lst ds))) with
   |ok d =>
    rw[e2]at p;dsimp only at p;by_cases n:Jk d=true
    ·rw[if_pos n]at p;exact fun v H' G' x rd=>p v H' (Zh G' a) (yp h2 h3 x) (PX (x.gg a _ aZ) n rd)
    ·rw[if_neg n]at p;exact p.elim
   |ex c n =>
    rw[e2]at p;exact fun H' G' x=>p H' (Zh G' a) (yp h2 h3 x)
   |no=>rw[e2]at p;exact p.elim
  |_=>exact p.elim
noncomputable def lJ(i:Nat)(f:aD->Rs Bool):aD->Rs Bool:=fun ρ=>match ρ[i]? with
 |some (.ow ds)=>f (ρ.set i (.fz (.lst ds)))
 |_=>.no
theorem yq(i:Nat){e:ag}{f:aD->Rs Bool}(h:ST X B W e f):ST X B W e (lJ i f):=by
 intro pins s σ H Q I ⟨ρ,G,r,p⟩;unfold lJ at p;cases q:ρ[i]? with
 |none=>rw[q]at p;exact p.elim
 |some z =>
  rw[q]at p;cases z with
  |ow ds =>
   obtain⟨a,vs,h2,h3,r'⟩:=r.lend q;refine h pins s σ H Q I ⟨_,_,r',?_⟩;dsimp only at p;cases e2:f (ρ.set i (.fz (.lst ds))) with
   |ok d=>rw[e2]at p;exact fun H' G' x=>p H' (Zh G' a) (yp h2 h3 x)
   |ex c n=>rw[e2]at p;exact fun H' G' x=>p H' (Zh G' a) (yp h2 h3 x)
   |no=>rw[e2]at p;exact p.elim
  |_=>exact p.elim
end
end Vl
namespace Vl
open PySem PySem.Spec PySem.Calls PySem.W L2
section
variable{X:Cx}{B:Bs}{a b:ag}{pos:Pos}{fa fb:aD->Rs (D×aD)}
end
section
variable{ρ ρ1:aD}{d x y z:D}{f fa fb:aD->Rs D}{g k a b:aD->Ou}{r:Ou}{ds:List D}{fs:aD->Rs (List D)}{c c1 c2:aD->Rs Bool}{t u:Bool}{i j:Nat}{α β:Type}{e:Str}{n:Int}
theorem Xc:Uk (.nx ρ) k=k ρ:=rfl
theorem Xd:Uk (.rt d) k=.rt d:=rfl
theorem Xe:Uk (.ex e n ρ) k=.ex e n ρ:=rfl
theorem Jo{a:α}{k:α->Ou}:oR (.ok a) ρ k=k a:=rfl
theorem aeG{k:α->Ou}:oR (.ex e n) ρ k=.ex e n ρ:=rfl
theorem Jp{a:α}{k:α->Rs β}:Rs.bind (.ok a) k=k a:=rfl
theorem Xf{k:α->Rs β}:Rs.bind (.ex e n) k=.ex e n:=rfl
theorem aeH:oO (some ρ)=.nx ρ:=rfl
theorem Xg:fQ (.nx ρ)=.ok .non:=rfl
theorem Xh:fQ (.rt d)=.ok d:=rfl
theorem Xi:fQ (.ex e n ρ)=.ex e n:=rfl
theorem Xj:Ul (.nx ρ)=.nx ρ:=rfl
theorem Xk:Ul (.rt d)=.rt d:=rfl
theorem LQ{n:Nat}{v:List D->Rs D}:bf n v ds=if ds.length=n then v ds else .no:=rfl
theorem Ma{a:α}:jx (.ok a)=.ok a:=rfl
theorem nQ{m n:Int}(h:-(2 ^ 64) < n/\n < 2 ^ 64):dZ (.int m) (.int n)=.ok (.int (m * n)):=abW (.inr h)
theorem Xl{m n:Int}(h:-(2 ^ 64) < m/\m < 2 ^ 64):dZ (.int m) (.int n)=.ok (.int (m * n)):=abW (.inl h)
theorem Qa{m:Int}:cN (.tup ds) (.int m)=match xO ds m with|some d=>.ok d|none=>.no:=rfl
theorem Xm{m:Int}:cN (.lst ds) (.int m)=match xO ds m with|some d=>.ok d|none=>.no:=rfl
theorem nR:mC [.lst ds]=.ok (.int ds.length):=rfl
theorem Gd:mC [.tup ds]=.ok (.int ds.length):=rfl
theorem Mf:nG [.lst ds]=.ok (.tup ds):=rfl
theorem Mi:nG [.tup ds]=.ok (.tup ds):=rfl
theorem Mj:Wn [.lst ds]=.ok (.lst ds):=rfl
theorem Ml:Wn [.tup ds]=.ok (.lst ds):=rfl
theorem Mq:Jb [.int n]=.ok (.int n):=rfl
theorem Mr:Jb [.bl t]=.ok (.int (if t then 1 else 0)):=rfl
theorem Xn:ajd x .non=.ok (.bl (vA x)):=rfl
theorem Ms:agV x .non=.ok (.bl (!vA x)):=rfl
theorem aeI:vA .non=true:=rfl
theorem aeJ:vA (.bl t)=false:=rfl
theorem aeK:vA (.int n)=false:=rfl
theorem aeL:vA (.tup ds)=false:=rfl
theorem aeM:vA (.lst ds)=false:=rfl
theorem Xo:ZW (.int n)=.ok (.int (-n)):=rfl
theorem vH{d:D}:xO (d::ds) 0=some d:=by
 unfold xO;have:NK (d::ds).length 0=some 0:=by unfold NK;simp
 rw[this];rfl
theorem Jq{d d':D}:xO (d::d'::ds) 1=some d':=by
 unfold xO;have:NK (d::d'::ds).length 1=some 1:=by unfold NK;simp;lia
 rw[this];rfl
end
section
open So Tb
theorem abe{acc:LL}{k x:List Int}:x∈ins acc k↔x=k∨x∈acc:=by
 unfold ins;split
 ·rename_i h;constructor
  ·exact .inr
  ·rintro(rfl|h')
   ·exact h
   ·exact h'
 ·exact cm
theorem uE{l:LL}{x:List Int}:x∈bT l↔x∈l:=by
 unfold bT;have:∀(l acc:LL),x∈l.foldl ins acc↔x∈l∨x∈acc:=by
  intro l
  induction l with
  |nil=>intro acc;simp
  |cons a l ih =>
   intro acc;rw[kR,ih,abe,cm];constructor
   ·rintro(h|h|h)
    ·exact .inl (.inr h)
    ·exact .inl (.inl h)
    ·exact .inr h
   ·rintro((h|h)|h)
    ·exact .inr (.inl h)
    ·exact .inl h
    ·exact .inr (.inr h)
 simpa using this l []
theorem Rw(l:LL):(bT l).Nodup:=by
 unfold bT;have:∀(l acc:LL),acc.Nodup->(l.foldl ins acc).Nodup:=by
  intro l
  induction l with
  |nil=>intro acc h;exact h
  |cons a l ih =>
   intro acc h;refine ih _ ?_;unfold ins;split
   ·exact h
   ·rename_i hn;exact g_.mpr ⟨hn,h⟩
 exact this l [] vb
theorem gR{l:LL}{x:List Int}:x∈bO l↔x∈l:=(fH l).mem_iff
theorem oK(l:LL):(bO l).length=l.length:=(fH l).length_eq
noncomputable abbrev rise(l:LL):LL:=bO (bT l)
theorem Xp{l:LL}{x:List Int}:x∈rise l↔x∈l:=gR.trans uE
theorem abf{f:aD->Rs D}{ρ:aD}{aY:LL}(h:f ρ=.ok (.lst (aY.map tupK)))(hl:aY.length < 4900)(hne:∀ks∈aY,ks≠[]):zM (fK f) ρ=.ok (.lst ((rise aY).map tupK)):=by unfold zM fK;rw[h];simp only[Jp,Fy,Dc];rw[if_pos (ir (Tb.zj _) hl)];simp only[Jp,Fz];rw[if_pos ⟨fun ks hk=>hne ks (uE.mp hk),ir (zj aY) hl⟩]
noncomputable def Pair(ks:List Int):Prop:=∃a b,ks=[a,b]
theorem Pair.ne{ks:List Int}(h:Pair ks):ks≠[]:=by obtain⟨a,b,rfl⟩:=h;simp
theorem mJ(ks:List Int):gP (tupK ks)<=2:=by
 unfold tupK;have:gw (ks.map D.int)<=1:=by
  induction ks with
  |nil=>simp[gw]
  |cons k ks ih=>simp only[bX,gw,gP];exact Nat.max_le.mpr ⟨by lia,ih⟩
 simp only[gP];lia
theorem sJ(aY:LL):gw (aY.map tupK)<=2:=by
 induction aY with
 |nil=>simp[gw]
 |cons k aY ih=>simp only[bX,gw];exact Nat.max_le.mpr ⟨mJ k,ih⟩
end
end Vl
namespace Vl
open PySem PySem.Spec PySem.Calls PySem.W L2 So
section
variable{ρ ρ1 ρ2:aD}{d x y z:D}{f fa fb:aD->Rs D}{xa xb:aD->Rs (D×aD)}{g k a b:aD->Ou}{r:Ou}{ds:List D}{fs:aD->Rs (List D)}{xs:aD->Rs (List D×aD)}{c c1 c2:aD->Rs (Bool×aD)}{t u:Bool}{i j:Nat}
end
end Vl
namespace Vl
open PySem PySem.Spec PySem.Calls PySem.W L2
noncomputable abbrev KL:=LL
theorem t2(a b:D):cU [a,b]=.ok (.tup [a,b]):=xr (by simp)
theorem sO(ks:List Int):tu (tupK ks)=some ks:=by
 show uy (ks.map D.int)=some ks
 induction ks with
 |nil=>rfl
 |cons k ks ih=>rw[bX];show(uy (ks.map D.int)).map _=_;rw[ih];rfl
theorem mK(kvs:List (List Int×D))(x:List Int):(iu kvs x).isSome=decide (x∈kvs.map (·.1)):=by
 induction kvs with
 |nil=>rfl
 |cons p kvs ih =>
  unfold iu at ih ⊢;rw[jv,bX];by_cases h:p.1=x
  ·simp[h]
  ·have h':¬x=p.1:=fun z=>h z.symm;simp only[h,decide_false];rw[ih];simp[h']
theorem vI(kvs:List (List Int×D))(ks x:List Int)(d:D):x∈(qQ kvs ks d).map (·.1)↔x=ks∨x∈kvs.map (·.1):=by
 unfold qQ;split
 ·rename_i c;rw[mK]at c;have hk:=of_decide_eq_true c;have e:(kvs.map fun p=>if p.1=ks then (p.1,d) else p).map (·.1)=kvs.map (·.1):=by rw[gz];refine mB fun p _=>?_;show(if p.1=ks then (p.1,d) else p).1=p.1;split <;> rfl
  rw[e];exact⟨.inr,fun h=>h.elim (fun z=>z▸hk) id⟩
 ·rw[iL,dt];simp[or_comm]
theorem Qc(kvs:List (List Int×D))(ks:List Int)(d:D):(qQ kvs ks d).length<=kvs.length + 1:=by
 unfold qQ;split
 ·rw[cn];lia
 ·simp
theorem Qd{ρ:aD}{j:Nat}{kvs:List (List Int×D)}{ks:List Int}{v:D}{fe fk:aD->Rs D}(he:fe ρ=.ok v)(hj:ρ[j]?=some (.od kvs))(hk:fk ρ=.ok (tupK ks))(hl:kvs.length<=1000000):ql j fe fk ρ=.nx (ρ.set j (.od (qQ kvs ks v))):=by unfold ql;rw[he,hj];show oR (fk ρ) ρ _=_;rw[hk];show(match tu (tupK ks) with|some ks=>if kvs.length<=1000000 then Ou.nx _ else .no|none=>.no)=_;rw[sO];show(if kvs.length<=1000000 then Ou.nx _ else .no)=_;rw[if_pos hl]
noncomputable def GK(kvs:List (List Int×D)):Prop:=∀x∈kvs.map (·.1),Pair x
noncomputable abbrev sh(k:KL)(b:Bool):D:=.tup [.tup (k.map tupK),.bl b]
structure GN (kvs:List (List Int×D)):Prop where
 pr:GK kvs
 nd:(kvs.map (·.1)).Nodup
theorem GN.put{kvs:List (List Int×D)}(h:GN kvs)(x y:Int)(d:D):GN (qQ kvs [x,y] d):=by
 refine⟨fun z hz=>?_,?_⟩
 ·rcases(vI kvs [x,y] z d).mp hz with rfl|h'
  ·exact⟨x,y,rfl⟩
  ·exact h.pr z h'
 ·unfold qQ;split
  ·have e:(kvs.map fun p=>if p.1=[x,y] then (p.1,d) else p).map (·.1)=kvs.map (·.1):=by rw[gz];refine mB fun p _=>?_;show(if p.1=[x,y] then (p.1,d) else p).1=p.1;split <;> rfl
   rw[e];exact h.nd
  ·rename_i c;rw[iL,List.nodup_append];refine⟨h.nd,by simp,fun a ha b hb=>?_⟩;simp only[bX,gu,ie]at hb;subst hb;rintro rfl;rw[mK]at c;exact c (decide_eq_true ha)
theorem GN.nil:GN []:=⟨fun _ h=>(by cases h),vb⟩
theorem GN.out{kvs:List (List Int×D)}(h:GN kvs)(ks:List Int):GN (jB kvs ks)/\(jB kvs ks).length<=kvs.length/\kvs.length<=(jB kvs ks).length + 1:=by
 refine⟨⟨fun z hz=>?_,h.nd.sublist (List.Sublist.map _ uB)⟩,iO _ _,?_⟩
 ·obtain⟨p,hp,rfl⟩:=dC.mp hz;exact h.pr _ (m_ ((fm.mp hp).1))
 ·have nd:=h.nd;clear h;unfold jB
  induction kvs with
  |nil=>simp
  |cons p kvs ih =>
   rw[bX,g_]at nd;have:=ih nd.2;rw[eD];by_cases c:p.1=ks
   ·rw[if_neg (by simp[c])];have e:kvs.filter (fun p=>!decide (p.1=ks))=kvs:=List.filter_eq_self.mpr fun q hq=>by have:q.1≠ks:=fun z=>nd.1 (c.trans z.symm▸m_ hq);simp[this]
    rw[e];simp
   ·rw[if_pos (by simp[c])];simp only[ck];lia
theorem Tq(p:List Int)(i:Int)(j:Nat)(hi:i=j)(hj:j < p.length):cN (tupK p) (.int i)=.ok (.int (p.getD j 0)):=by subst hi;show cN (.tup (p.map D.int)) (.int j)=_;rw[Qa];unfold xO NK;rw[if_pos (by lia),if_pos (by rw[cn];lia)];simp only[mo,r8,di,d9 hj,n_,gx,og]
theorem Dj:∀a b:List Int,wk (a.map D.int) (b.map D.int)=decide (a=b)
 | [],[]=>rfl
 | [],_::_=>rfl
 |_::_,[]=>rfl
 |x::a,y::b=>by simp only[bX,wk,oF,Dj a b];by_cases h:x=y <;> by_cases h2:a=b <;> simp[h,h2]
theorem vJ(a b:List Int):oF (tupK a) (tupK b)=decide (a=b):=by unfold Vl.tupK;simp only[oF];exact Dj a b
theorem ahc(x:List Int)(k:KL):Zg (tupK x) (.tup (k.map tupK))=.ok (.bl (decide (x∈k))):=by
 have e:RZ (tupK x) (k.map tupK)=decide (x∈k):=by
  unfold RZ
  induction k with
  |nil=>simp
  |cons y k ih =>
   rw[bX,rn,ih,vJ];by_cases h:y=x
   ·subst h;simp
   ·by_cases h2:x∈k <;> simp[h,h2,dE h]
 show Bx false _ _=_;simp only[Bx];rw[if_pos ⟨cx (mJ x) (by decide),cx (sJ k) (by decide)⟩];simp only[bz,if_false,e]
theorem Qe{X:aD->Rs Bool}{E:aD->Rs D}{t:List Int->Bool}{F:List Int->List Int}{cs:List Sl}:∀{L:KL},(∀ks∈L,X (.fz (tupK ks)::cs)=.ok (t ks))->(∀ks∈L,E (.fz (tupK ks)::cs)=.ok (tupK (F ks)))->∀a,eZ (aM 0) X E (L.map tupK) (a::cs)=.ok (((L.filter t).map F).map tupK)
 | [],_,_,a=>rfl
 |k::L,hx,he,a=>by
  have ih:=Qe (L:=L) (fun ks h=>hx ks (.tail _ h)) (fun ks h=>he ks (.tail _ h)) (.fz (tupK k));have h1:=hx k (.head _);have h2:=he k (.head _);cases c:t k with
  |true =>
   rw[c]at h1;simp only[bX,eZ,aM,o3,h1,h2,ih,Rs.bind,if_true,eD,c]
  |false =>
   rw[c]at h1;simp only[bX,eZ,aM,o3,h1,h2,ih,Rs.bind,bz,if_false,eD,c]
theorem Mt{L:KL}{X:aD->Rs Bool}{E:aD->Rs D}{t:List Int->Bool}{F:List Int->List Int}{ρ:aD}{fi:aD->Rs (List D)}{caps:List Nat}{cs:List Sl}(hs:dY 1 caps ρ=.no::cs)(hi:fi ρ=.ok (L.map tupK))(hx:∀ks∈L,X (.fz (tupK ks)::cs)=.ok (t ks))(he:∀ks∈L,E (.fz (tupK ks)::cs)=.ok (tupK (F ks)))(hl:L.length<=1000) :
  dW (aM 0) X E 1 caps fi ρ=.ok (.lst (((L.filter t).map F).map tupK)):=by
 refine Vi hi ?_ (by rw[cn,cn];have:=iO t L;lia);rw[hs];exact Qe hx he _
theorem mj{L:KL}{X:aD->Rs Bool}{E:aD->Rs D}{t:List Int->Bool}{ρ:aD}{fi:aD->Rs (List D)}{caps:List Nat}{cs:List Sl}(hs:dY 1 caps ρ=.no::cs)(hi:fi ρ=.ok (L.map tupK))(hx:∀ks∈L,X (.fz (tupK ks)::cs)=.ok (t ks))(he:∀ks∈L,E (.fz (tupK ks)::cs)=.ok (tupK ks))(hl:L.length<=1000) :
  dW (aM 0) X E 1 caps fi ρ=.ok (.lst ((L.filter t).map tupK)):=by
 have:=Mt (F:=id) hs hi hx he hl;rwa [List.map_id]at this
noncomputable def Dl(A:KL)(b:Bool)(x:List Int):Bool:=decide (x∈A) != b
section
variable{X:Cx}{K:ai}{B:Bs}{W:Wi}{σ:St}{G H:Hp}{ρ:aD}
section
variable{a b:ag}{pos:Pos}{fa fb:aD->Rs D}
end
end
end Vl
namespace L2
open PySem PySem.Spec PyProof.Rows
section
variable{X:Cx}{tg:ag}
end
end L2
namespace Vl
open PySem PySem.Spec L2
section
variable{X:Cx}{B:Bs}{W:Wi}{tg:ag}
end
end Vl
namespace Vl
open PySem PySem.Spec PySem.Calls PySem.W L2
section
variable{X:Cx}{pins:List (ae×Obj)}{σ:St}{H:Hp}{s:af}
end
section
variable{X:Cx}{pins:List (ae×Obj)}{σ:St}
end
section
variable{X:Cx}{pins:List (ae×Obj)}{σ:St}
end
section
variable{X:Cx}{pins:List (ae×Obj)}{σ:St}{H:Hp}{s:af}
structure Made (X:Cx)(pins:List (ae×Obj))(σ:St)(H:Hp)(P:ae)(q:Str)(params:Arguments)(body:ag)(sc:Scope)(f c':ae)(pm ctv:aa)(H':Hp)(s':af):Prop where
 inv:Inv X pins σ H' s'
 hs:H'=H∨∃a,H a=none/\H'=upd H a (.Sq q)
 Sq:H' c'=some (.Sq q)
 obj:s'.heap.get? f=some (kla_obj "<lambda>" q params body sc (eV sc X.env) pm c' ctv)
 fn:H' f=none
 ff:f∉uO X.stack
end
noncomputable def H0(ts:List (ae×Str))(K:ai)(a:ae)(o:HO):Hp:=fun b=>match ts.lookup b with
 |some q=>some (.tab q)
 |none=>if b=a/\K.lookup a=none then some o else none
section
variable{X:Cx}{B:Bs}{W:Wi}{K:ai}
end
end Vl
namespace Dk
open PySem PySem.Spec
section
variable{prog:aS}{w:az}{A:ba}{E:aa->af->Prop}{s:af}{es:Array md}{ep:Nat}{D:ae}
end
end Dk
namespace Vl
open PySem PySem.Spec PySem.Calls PySem.W L2
section
variable{X:Cx}{B:Bs}{W:Wi}{K:ai}
end
structure alC (K:ai)(x:Str)(st:bg)(f:ae)(fd:df)(c P:ae)(q:Str):Prop where
 ex:∃(oc:aa) (od:Option ae) (kV doc pm:aa) (an:Option ae) (ct:aa) (osl:Array (Option aa)),
  fd=iq x x (gO st) (cO st) (aF st) .none kV doc pm an (.ref c) ct/\K.lookup f=some ⟨oc,od,.func fd,osl⟩/\nK K (.ref c) x=true
 kp:g9 K (.ref f)=true
 hd:codeHdIn K c P=true
 mem:(P,q)∈adx K
section
variable{P:aS}{w:az}{K:ai}{mg:Str->Option aa}{base:aE}
end
end Vl
namespace Vl
open PySem PySem.Spec L2 So Tb
noncomputable def ahd(t:Int)(ks:List Int):List Int :=
 let r:=ks.getD 0 0;let c:=ks.getD 1 0
 if t=0 then [r,c] else if t=1 then [c,-r] else if t=2 then [-r,-c] else if t=3 then [-c,r] else if t=4 then [r,-c] else if t=5 then [-c,-r] else if t=6 then [-r,c] else [c,r]
noncomputable def turned(t:Int)(l:LL):LL:=bO (l.map (ahd t))
end Vl
namespace Vl
open PySem PySem.Spec PySem.Calls PySem.W L2 So Tb
noncomputable abbrev c0(a:List Int):Int:=a.getD 0 0
noncomputable abbrev c1(a:List Int):Int:=a.getD 1 0
noncomputable def Mu(a b:List Int):Prop:=c0 a < c0 b∨(c0 a=c0 b/\c1 a < c1 b)
theorem Jr{a:List Int}(h:Pair a):a=[c0 a,c1 a]:=by obtain⟨x,y,rfl⟩:=h;rfl
theorem Xq{a b:List Int}(ha:Pair a)(hb:Pair b)(h0:c0 a=c0 b)(h1:c1 a=c1 b):a=b:=by rw[Jr ha,Jr hb,h0,h1]
theorem Qf{a:List Int}(h:Mu a a):False:=by unfold Mu at h;lia
theorem aeN{a b c:List Int}(h:Mu a b)(k:Mu b c):Mu a c:=by unfold Mu at *;lia
theorem Js{a b:List Int}(ha:Pair a)(hb:Pair b):vW a b=true↔Mu a b:=by
 obtain⟨x,y,rfl⟩:=ha;obtain⟨z,w,rfl⟩:=hb;unfold Mu;show _↔x < z∨(x=z/\y < w)
 simp only[vW];by_cases h:x=z
 ·subst h;by_cases k:y=w
  ·subst k;simp
  ·simp[k]
 ·simp[h]
structure jW (L:KL):Prop where
 pr:∀x∈L,Pair x
 pw:L.Pairwise Mu
theorem jW.nd{L:KL}(h:jW L):L.Nodup:=h.pw.imp fun {a b} z e=>by subst e;exact Qf z
theorem jW.le{L:KL}(h:jW L):L.Pairwise RX:=by
 have:L.Pairwise fun a b=>Pair a/\Pair b/\Mu a b:=by refine nN.imp_of_mem (fun {a b} ha hb z=>⟨h.pr a ha,h.pr b hb,z⟩) h.pw
 refine this.imp fun {a b} fU=>?_;obtain⟨pa,pb,z⟩:=fU;unfold RX;cases e:vW b a with
 |false=>rfl
 |true=>exact(Qf (aeN z ((Js pb pa).mp e))).elim
theorem jW.of{L:KL}(pr:∀x∈L,Pair x)(nd:L.Nodup)(pw:L.Pairwise RX):jW L:=by
 refine⟨pr,?_⟩;have:L.Pairwise fun a b=>a≠b/\RX a b:=(List.pairwise_and_iff.mpr ⟨nd,pw⟩)
 refine nN.imp_of_mem (fun {a b} ha hb ⟨ne,z⟩=>?_) this;have pa:=pr a ha;have pb:=pr b hb;by_cases c:Mu a b
 ·exact c
 ·exfalso;have nlt:¬Mu b a:=fun w=>by have:=(Js pb pa).mpr w;unfold RX at z;rw[z]at this;cases this
  unfold Mu at c nlt;exact ne (Xq pa pb (by lia) (by lia))
theorem jW.sort{L:KL}(pr:∀x∈L,Pair x)(nd:L.Nodup):jW (bO L):=.of (fun x hx=>pr x (gR.mp hx)) ((fH L).nodup_iff.mpr nd) (vh L)
theorem jW.rise{L:KL}(pr:∀x∈L,Pair x):jW (rise L):=.sort (fun x hx=>pr x (uE.mp hx)) (Rw L)
theorem jW.ext{L M:KL}(hL:jW L)(hM:jW M)(h:∀x,x∈L↔x∈M):L=M:=wJ ((List.perm_ext_iff_of_nodup hL.nd hM.nd).mpr h) hL.le hM.le
theorem jW.filter{L:KL}(h:jW L)(t:List Int->Bool):jW (L.filter t):=⟨fun x hx=>h.pr x (fm.mp hx).1,h.pw.filter t⟩
noncomputable def go(st c:List Int)(j:Nat):List Int:=[c0 c + j * c0 st,c1 c + j * c1 st]
noncomputable def Up(st:List Int):Prop:=Mu [0,0] st
end Vl
namespace Vl
open PySem PySem.Spec PySem.Calls PySem.W L2
end Vl
namespace L2
open PySem PySem.Spec PyProof.Rows Vl
section
variable{X:Cx}{tg:ag}
end
end L2
namespace Vl
open PySem PySem.Spec L2 So Tb
section
variable{X:Cx}{B:Bs}{W:Wi}{tg:ag}{K:ai}
end
end Vl
namespace Vl
open PySem PySem.Spec PySem.Calls PySem.W L2 So
theorem Dm{α:Type}{h:Tg}{g:aD->Ou}(F:α->D)(P:List α->aD->Prop){L0:List α}
  (hs:∀x done ρ,x∈L0->done.length < L0.length->P done ρ->∃ρ1 ρ2,h (F x) ρ=some ρ1/\g ρ1=.nx ρ2/\P (done++[x]) ρ2) :
  ∀(L done:List α) (ρ:aD),(∀x∈L,x∈L0)->done.length + L.length<=L0.length->P done ρ->∃ρ',dw h g (L.map F) ρ=.nx ρ'/\P (done++L) ρ'
 | [],done,ρ,_,_,p=>⟨ρ,rfl,by rw[dP];exact p⟩
 |x::L,done,ρ,hx,hl,p=>by rw[ck]at hl;obtain⟨ρ1,ρ2,e1,e2,p2⟩:=hs x done ρ (hx x (.head _)) (by lia) p;obtain⟨ρ',e,p'⟩:=Dm F P hs L (done++[x]) ρ2 (fun y hy=>hx y (.tail _ hy)) (by rw[dn,List.length_singleton];lia) p2;refine⟨ρ',?_,by rw[eP]at p';exact p'⟩;simp only[bX,dw,e1,e2];exact e
theorem zY{α:Type}{h:Tg}{g:aD->Ou}(F:α->D)(P:List α->aD->Prop){L:List α}{ρ:aD}(p:P [] ρ)
  (hs:∀x done ρ,x∈L->done.length < L.length->P done ρ->∃ρ1 ρ2,h (F x) ρ=some ρ1/\g ρ1=.nx ρ2/\P (done++[x]) ρ2):∃ρ',dw h g (L.map F) ρ=.nx ρ'/\P L ρ':=by
 obtain⟨ρ',e,p'⟩:=Dm F P hs L [] ρ (fun _ z=>z) (by rw[d4,gS];exact bE _) p;exact⟨ρ',e,by rw[ij]at p';exact p'⟩
structure Km (kvs:List (List Int×D))(n:Nat)(M:List Int->Prop):Prop where
 gn:GN kvs
 le:kvs.length<=n
 iff:∀k,k∈kvs.map (·.1)↔M k
theorem Km.nil:Km [] 0 fun _=>False:=⟨.nil,bE _,fun k=>by simp⟩
theorem Km.put{kvs:List (List Int×D)}{n:Nat}{M M':List Int->Prop}(h:Km kvs n M)(x y:Int)(d:D)(hM:∀k,M' k↔k=[x,y]∨M k):Km (qQ kvs [x,y] d) (n + 1) M' :=
 ⟨h.gn.put x y d,cx (Qc _ _ _) (Nat.add_le_add_right h.le 1),fun k=>by rw[vI,hM,h.iff]⟩
theorem Km.mono{kvs:List (List Int×D)}{n n':Nat}{M M':List Int->Prop}(h:Km kvs n M)(hn:n<=n')(hM:∀k,M' k↔M k):Km kvs n' M':=⟨h.gn,cx h.le hn,fun k=>by rw[hM,h.iff]⟩
theorem Xr{aY:KL}(hl:aY.length < 4900)(hp:∀ks∈aY,Pair ks):nP [.lst (aY.map tupK)]=.ok (.lst ((bO aY).map tupK)):=by simp only[nP,Dc];rw[if_pos ⟨fun ks hk=>by obtain⟨x,y,rfl⟩:=hp ks hk;simp,hl⟩]
theorem acp{ρ:aD}{i:Nat}{acc:KL}{x:List Int}{f:aD->Rs D}(hi:ρ[i]?=some (.ow (acc.map tupK)))(hf:f ρ=.ok (tupK x))(hl:acc.length < 1000000):wL i f ρ=.nx (ρ.set i (.ow (acc.map tupK++[x].map tupK))):=by unfold wL;rw[hi];show oR (f ρ) ρ _=_;rw[hf];show(if (acc.map tupK).length < 1000000 then Ou.nx _ else .no)=_;rw[if_pos (by rw[cn];exact hl)];rfl
end Vl
namespace Vl
open PySem PySem.Spec PySem.Calls PySem.W L2
noncomputable def scB(N P:List Str)(sc:Scope):Bool:=decide (sc.kind=.function) && !sc.isCoroutine && !sc.isGenerator && decide N.Nodup && decide (N.take P.length=P) && P.all (fun x=>sc.names.lookup x == some .local || sc.names.lookup x == some .cell) && sc.names.all (fun y=>y.2 != .free)
theorem wQ{N P:List Str}{sc:Scope}(h:scB N P sc=true):bF N P sc:=by unfold scB at h;simp only[kT,decide_eq_true_eq,ml,bne_iff_ne,j_,beq_iff_eq,ne_eq,Bool.not_eq_true']at h;obtain⟨⟨⟨⟨⟨⟨h1,h2⟩,h3⟩,h4⟩,h5⟩,h6⟩,h7⟩:=h;exact⟨h1,h2,h3,h4,h5,h6,h7⟩
section
variable{P:aS}{w:az}{K:c_}{mg:Str->Option aa}{base:aE}{x:Str}{st:bg}{N ps:List Str}{k n:Nat}{g:aD->Ou}
noncomputable abbrev gC(K:c_)(mg:Str->Option aa)(x:Str)(st:bg):Prop:=∃f fd,Fun K x x st f fd/\mg x=some (.ref f)
noncomputable def Dn(K:c_)(x:Str)(st:bg):Prop:=∃(f:ae) (oc:aa) (od:Option ae) (sl:Array (Option aa)) (kV dc pm:aa) (an:Option ae) (cd ct:aa),
 dQ K cw x=some (some (.ref f))/\K.lookup f=some ⟨oc,od,.func (fnOf x x (gO st) (cO st) (aF st) .none kV dc pm an cd ct),sl⟩/\codeIn K cd x=true/\keepIn K (.ref f)=true
theorem Dn.ent{h:aE}(a:Dn K x st)(X:K.In h)(G:h.Ns cw mg):gC K mg x st:=by obtain⟨f,oc,od,sl,kV,dc,pm,an,cd,ct,a,l,d,k⟩:=a;exact⟨f,_,Tz (st:=st) l d k,mg_of X G a⟩
noncomputable abbrev Hb(P:aS)(w:az)(K:c_)(mg:Str->Option aa)(base:aE)(N:List Str)(x:Str)(st:bg)(k:Nat)(g:aD->Ou):Prop :=
 ∀(f:ae) (cdv:aa) (A:ba) (outer:List Env) (s:af) (H:Hp) (E:XK) (B:Bs),jt k (A.deeper (kX x (aF st) s.heap.objs.size f cdv)) ->
  qK (qt (wC P w K) P w K mg base N x (aF st) f cdv A outer s H E) (fun c n _ H'=>E (Bo c n) none H') ->
  xq (qt (wC P w K) P w K mg base N x (aF st) f cdv A outer s H E) B (fun c n _ H'=>E (Bo c n) none H') (cO st) g
noncomputable abbrev Bi(x:Str)(st:bg)(ps:List Str):Prop:=∀(kV doc pm:aa) (an:Option ae) (cdv ct:aa) (us:List aa),us.length=ps.length->bindArgs (fnOf x x (gO st) (cO st) (aF st) .none kV doc pm an cdv ct) ⟨us,[]⟩=pure (ps.zip us)
theorem gH(F:gC K mg x st)(S:bF N ps (aF st))(hb:Hb P w K mg base N x st k g)(hbi:Bi x st ps:=by intro _ _ _ _ _ _ us hl;rcases us with _|⟨_,_|⟨_,_|⟨_,_|⟨_,_|⟨_,us⟩⟩⟩⟩⟩ <;> first|rfl|(simp only[ck,d4]at hl;lia)) :
  iG P w K mg base x (k + 1) ps.length (fun ds=>fQ (g (aU N ds))):=let ⟨f,_,F,hm⟩:=F;adX F hm S hbi (hb f)
end
theorem Dn.mk{K:c_}{x:Str}{st:bg}{f:ae}{oc:aa}{od:Option ae}{sl:Array (Option aa)}{kV dc pm:aa}{an:Option ae}{cd ct:aa}(a:dQ K cw x=some (some (.ref f)))(b:K.lookup f=some ⟨oc,od,.func (fnOf x x (gO st) (cO st) (aF st) .none kV dc pm an cd ct),sl⟩)(c:codeIn K cd x=true)(d:keepIn K (.ref f)=true):Dn K x st:=⟨f,oc,od,sl,kV,dc,pm,an,cd,ct,a,b,c,d⟩
end Vl
namespace Vl
open PySem PySem.Spec L2 So Tb
section
variable{X:Cx}{B:Bs}{W:Wi}{K:ai}
end
end Vl
namespace Vl
open PySem PySem.Spec PySem.Calls PySem.W L2
section
variable{prog:aS}{w:az}{A:ba}{E:aa->af->Prop}{h:aE}{g:Array kD}{d:Drawn}{t:Nat}{os:OsState}
variable{nm q:Str}{C N:ae}{bs bm bmB:List aa}{hdct:Bool}{sn:List Str}{sub:List aa}{ab:Bool}{col:Option Bool}{dd:Option ae}{k0 k1 k2 k3 k5:Option aa}{Bb Bn newId nid initId inN:String}{bmN:List aa}
noncomputable def ajj(C M:ae):List aa:=[.ref C,.ref M,.type "ValueError",.type "Exception",.type "BaseException",.type "object"]
structure Xik (K:c_)(C M:ae)(nm:Str):Prop where
 cls:∃cd,clsIn K C=some cd/\cd.mro=ajj C M/\cd.hasDict=true
 ob:mroIn K C (.type "object")=some true
 be:mroIn K C (.type "BaseException")=some true
 sa:findIn K (.ref C) "__setattr__"=some (some (.builtin "object.__setattr__"))
 no:findIn K (.ref C) nm=some none
 ga:findIn K (.ref C) "__getattribute__"=some (some (.builtin "BaseException.__getattribute__"))
 gh:findIn K (.ref C) "__getattr__"=some none
end
section
variable{X:Cx}{pins:List (ae×Obj)}{σ:St}{H:Hp}{s:af}
end
section
variable{X:Cx}{pins:List (ae×Obj)}{σ:St}{H:Hp}{s:af}
end
section
variable{P:aS}{w:az}{K:ai}{mg:Str->Option aa}{base:aE}
end
section
variable{X:Cx}{B:Bs}{W:Wi}{pins:List (ae×Obj)}{σ:St}{H:Hp}{s:af}{C f:ae}{fd:df}{a:Str}{newId:String}
end
section
variable{M:Model}{A:ba}{E:aa->af->Prop}{env:Env}
variable{nm q:Str}{C N:ae}{bs bm:List aa}{hdct:Bool}{sn:List Str}{sub:List aa}{ab:Bool}{col:Option Bool}{dd:Option ae}{k0 k1 k2 k3 k5:Option aa}{newId:String}
end
section
variable{X:Cx}{B:Bs}{W:Wi}{C f:ae}{fd:df}{a:Str}
end
section
variable{X:Cx}{B:Bs}{W:Wi}
end
section
variable{P:aS}{w:az}{K:c_}{mg:Str->Option aa}{base:aE}{x:Str}{st:bg}{N ps:List Str}{k n:Nat}{g:aD->Ou}
end
end Vl
namespace Vl
open PySem PySem.Spec L2
section
variable{X:Cx}{B:Bs}{W:Wi}
end
end Vl
namespace Vl
open PySem PySem.Spec PySem.Calls PySem.W L2
structure akg (K:c_)(x:Str)(st:bg)(f:ae)(fd:df)(ps:List Str)(b:Bool)(kn:Str):Prop extends ajf K x st f fd ps where
 bd:Binds K fd ps [.bool b]
 bk:∀(s:af) (us:List aa) (z:aa),K.In s.heap->us.length + 1=ps.length->iX s fd ⟨us,[(kn,z)]⟩ (ps.zip (us++[z]))
section
variable{X:Cx}{B:Bs}{W:Wi}
end
end Vl
namespace L2
open PySem PySem.Spec PyProof.Rows AutoSeq1
section
variable{X:Cx}
end
end L2
namespace Vl
open PySem PySem.Spec L2
section
variable{X:Cx}{B:Bs}{W:Wi}{K:ai}{G:Hp}
end
end Vl
namespace Vl
open PySem PySem.Spec PySem.Calls PySem.W L2
section
variable{X:Cx}{B:Bs}{W:Wi}
end
section
variable{X:Cx}{B:Bs}{W:Wi}
end
section
variable{P:aS}{w:az}{K:ai}{mg:Str->Option aa}{base:aE}
end
section
variable{X:Cx}{B:Bs}{W:Wi}
end
section
variable{X:Cx}{B:Bs}{W:Wi}
end
section
variable{P:aS}{w:az}{K:ai}{mg:Str->Option aa}{base:aE}
end
section
variable{X:Cx}{B:Bs}{W:Wi}
end
section
variable{X:Cx}{K:ai}{B:Bs}{W:Wi}{σ:St}{G H:Hp}{ρ:aD}{a b:ag}{pos:Pos}{fa fb:aD->Rs D}
end
section
variable{X:Cx}{B:Bs}{W:Wi}
end
noncomputable abbrev Mv:=List (List Int×D)
noncomputable def tD(K:ai)(B:Bs)(g:aD->Rs Mv):TS:=fun De σ H=>∃ρ G,SR K B σ H ρ G/\(match g ρ with
 | .ok kvs=>∀a U bh H' G',Ext B.1 B.2 G' H'->Same G G'->G' a=none->B.2 a=none->H' a=some (.ext (jr U a bh))->(∀b ks,U b ks->UG K G' b ks)->cM K G' kvs bh->De.rt (.ref a) H'
 |_=>False)
noncomputable def SD(X:Cx)(B:Bs)(ss:List bg)(g:aD->Rs Mv):Prop:=DG X ss (tD X.K B g)
section
variable{X:Cx}{B:Bs}{W:Wi}
noncomputable def Xu(i:Nat):aD->Rs Mv:=fun ρ=>match ρ[i]? with|some (.od kvs)=>.ok kvs|_=>.no
theorem aeO(i:Nat){x:Str}{p pos:Pos}(hN:X.N[i]?=some x:=by rfl)(hv:Gz X.env.scope x:=by first|exact Or.inl rfl|exact Or.inr (Or.inl rfl)|exact Or.inr (Or.inr rfl))(hd:qx x:=by decide)(hcd:GP x:=by decide) :
  SD X B [.Return (some (.Name x p)) pos] (Xu i):=by
 refine DG.imp (Nv (DK (iw hN hv hd hcd))) fun De σ H ⟨ρ,G,s,q⟩=>?_;unfold Xu at q;cases e:ρ[i]? with
 |none=>rw[e]at q;exact q.elim
 |some z =>
  rw[e]at q;cases z with
  |od kvs =>
   obtain⟨a,U,bh,e1,h2,h3,h4,h5,h6⟩:=s.od e;exact⟨_,e1,q a U bh H G s.en (.refl _) h3 h4 h2 h5 h6⟩
  |_=>exact q.elim
noncomputable def zZ(g:aD->Ou)(k:aD->Rs Mv):aD->Rs Mv:=fun ρ=>match g ρ with|.nx ρ'=>k ρ'|_=>.no
theorem Qg{st:bg}{rest:List bg}{g:aD->Ou}{k:aD->Rs Mv}(h1:SS X B W st g)(h2:SD X B rest k):SD X B (st::rest) (zZ g k):=by
 refine DG.imp (Hg h1 h2) fun De σ H ⟨ρ,G,s,p⟩=>⟨ρ,G,s,?_⟩
 unfold zZ at p;cases e:g ρ with
 |nx ρ' =>
  rw[e]at p;dsimp only at p;refine fun σ' H' G' s' q=>⟨ρ',G',s',?_⟩
  cases e2:k ρ' with
  |ok kvs=>rw[e2]at p;exact fun a U bh H2 G2 x1 x2=>p a U bh H2 G2 x1 (q.trans x2)
  |ex c n=>rw[e2]at p;exact p.elim
  |no=>rw[e2]at p;exact p.elim
 |_=>rw[e]at p;exact p.elim
end
noncomputable def spD(K:ai)(n:Nat)(g:List D->Rs Mv):Sp:=fun vs H Q E=>vs.length=n/\∃G ds,Ex0 K G H/\bD K G ds vs/\(match g ds with
 | .ok kvs=>∀a U bh H' G',Ext G H G' H'->G' a=none->H a=none->H' a=some (.ext (jr U a bh))->(∀b ks,U b ks->UG K G' b ks)->cM K G' kvs bh->Q (.ref a) H'
 |_=>False)
noncomputable def OkD(P:aS)(w:az)(K:ai)(mg:Str->Option aa)(base:aE)(x:Str)(k n:Nat)(v:List D->Rs Mv):Prop :=
 ∃f fd ps,qD P w K mg base (wC P w K) k f fd ps (spD K n v)/\mg x=some (.ref f)/\g9 K (.ref f)=true/\Binds K fd ps []
theorem aeP{P:aS}{w:az}{K:ai}{mg:Str->Option aa}{base:aE}{x:Str}{st:bg}{f:ae}{fd:df}{N ps:List Str}{k:Nat}{g:aD->Rs Mv}(F:Fun K x x st f fd)(hm:mg x=some (.ref f))(S:bF N ps (aF st))
  (hbi:∀(kV doc pm:aa) (an:Option ae) (cdv ct:aa) (us:List aa),us.length=ps.length->bindArgs (iq x x (gO st) (cO st) (aF st) .none kV doc pm an cdv ct) ⟨us,[]⟩=pure (ps.zip us))
  (hb:∀(cdv:aa) (A:ba) (outer:List Env) (s:af) (H:Hp) (E:XK) (B:Bs),jt k (A.deeper (kX x (aF st) s.heap.objs.size f cdv)) ->
   qK (qt (wC P w K) P w K mg base N x (aF st) f cdv A outer s H E) (fun c n _ H'=>E (Bo c n) none H') ->
   SD (qt (wC P w K) P w K mg base N x (aF st) f cdv A outer s H E) B (cO st) g) :
  OkD P w K mg base x (k + 1) ps.length (fun ds=>g (aU N ds)):=by
 refine⟨f,fd,ps,?_,hm,F.kp,F.binds hbi⟩;obtain⟨oc,od,kV,doc,pm,an,cdv,ct,osl,rfl,lk,hcd⟩:=F.ex;refine Nz lk hcd S (fun vs H Q E h=>h.1) fun A outer s H vs Q E hr _ h=>?_;obtain⟨_,G,ds,e,r,h⟩:=h;dsimp only at h;refine⟨_,hb cdv A outer s H E ⟨G,H,0⟩ hr (qL jk rfl),aU N ds,G,yU e r,?_⟩;cases e1:g (aU N ds) with
 |ok kvs=>rw[e1]at h;exact fun a U bh H' G' x q g1 b1 h1 h2 h3=>h a U bh H' G' x g1 b1 h1 h2 h3
 |ex c n=>rw[e1]at h;exact h.elim
 |no=>rw[e1]at h;exact h.elim
section
variable{X:Cx}{B:Bs}{W:Wi}
noncomputable def Ge(i n:Nat)(g:List D->Rs Mv)(fs:aD->Rs (List D)):aD->Ou:=fun ρ=>oR (fs ρ) ρ fun ds=>if ds.length=n then (match g ds with|.ok kvs=>.nx (ρ.set i (.od kvs))|_=>.no) else .no
theorem Xv(i:Nat){x y:Str}{p pos pos' cp:Pos}{e:ag}{es:List ag}{fs:aD->Rs (List D)}{k n kr:Nat}{g:List D->Rs Mv}(O:OkD X.prog X.w X.K X.mg X.base x k n g)(hr:jt kr X.A)(hN:X.N.Nodup)(ha:SA X B W (e::es) fs)(hi:X.N[i]?=some y:=by rfl)(hx:Kg X.env.scope y:=by first|exact Or.inl rfl|exact Or.inr rfl)
  (hs:dS (.Call (.Name x p) (e::es) [] cp) (some (.Name y pos')) pos.line X.env=pure false:=by rfl) (hf:X.fn y=true∨X.env.scope.names.lookup y=some .local:=by first|exact .inl rfl|exact .inr rfl|assumption) (hg:Gl X x:=by rfl) (hdb:qx x:=by decide)
  (he:bb (e::es) X.env=(false,bj e X.env)::bb es X.env:=by rfl) (hpl:(cS cp (bb es X.env)).any (·.1)=false:=by rfl) (hkr:k<=kr:=by decide) :
  SS X B W (.Assign [.Name y pos'] (.Call (.Name x p) (e::es) [] cp) pos) (Ge i n g fs):=by
 obtain⟨f,fd,ps,F,hm,hk,hb⟩:=O
 replace hr:=hr.mono hkr
 refine PS.imp (yN hN hi hx (zX F hr hg hm hk hb ha hdb he hpl) hs hf) fun De σ H ⟨ρ,G,s,p⟩=>⟨ρ,G,s,?_⟩
 unfold Ge at p;cases e:fs ρ with
 |ok ds =>
  rw[e]at p;dsimp only[oR]at p;by_cases hl:ds.length=n
  ·rw[if_pos hl]at p;intro vs H1 G1 x r;refine⟨by rw[<- r.length];exact hl,G1,ds,(s.ext x).ex0,r,?_⟩;cases e1:g ds with
   |ok kvs =>
    rw[e1]at p;dsimp only at p ⊢;intro a U bh H' G' y g1 h1 h2 h3 h4;have s1:=s.ext x
    let H2:Hp:=PL H' a
    have y2:Ext G1 H1 G' H2:=⟨y.gg,fun b o w=>by
      show PL H' a b=some o;rw[lH (aR w h1)];exact y.hh b o w,fun b o w=>by
      show PL H' a b=some o;rw[lH (aR w g1)];exact y.gh b o w,fun b xs w=>y.tp b xs (zW w).2,y.nw⟩
    have s2:=(s1.ext y2).Kw (i:=i) (z:=.od kvs) (p:=a) (o:=.ext (jr U a bh)) rfl ⟨U,bh,rfl,h3,h4⟩ vG;have e2:upd H2 a (.ext (jr U a bh))=H':=by
     funext b;by_cases w:b=a
     ·subst w;rw[aZ];exact h2.symm
     ·rw[aW w];exact lH w
    rw[e2]at s2;exact p _ H' G' s2 (x.gg.trans y.gg)
   |ex c m=>rw[e1]at p;exact p.elim
   |no=>rw[e1]at p;exact p.elim
  ·rw[if_neg hl]at p;exact p.elim
 |ex c m=>rw[e]at p;exact fun H1 G1 x=>p σ H1 G1 (s.ext x) x.gg
 |no=>rw[e]at p;exact p
end
section
variable{X:Cx}{K:ai}{B:Bs}{W:Wi}
end
section
variable{X:Cx}{B:Bs}{W:Wi}
end
section
variable{X:Cx}{B:Bs}
end
section
variable{X:Cx}{K:ai}{B:Bs}{W:Wi}{a b:ag}{pos:Pos}{fa fb:aD->Rs D}
end
end Vl
namespace Vl
open PySem PySem.Spec L2
section
variable{X:Cx}{B:Bs}{W:Wi}{K:ai}
variable{o e:ag}{apos cpos:Pos}{fo fe:aD->Rs D}
end
end Vl
namespace L2
open PySem PySem.Spec PyProof.Rows
section
variable{X:Cx}{tg:ag}
end
end L2
namespace Vl
open PySem PySem.Spec PySem.Calls PySem.W L2
section
variable{X:Cx}{B:Bs}{W:Wi}{K:ai}{σ:St}{G H:Hp}{ρ:aD}{De:Ends}
end
section
variable{P:aS}{w:az}{K:c_}{mg:Str->Option aa}{base:aE}{x:Str}{st:bg}{N ps:List Str}{m:Nat}
end
section
variable{X:Cx}{B:Bs}{W:Wi}{K:ai}
end
end Vl
namespace Vl
open PySem PySem.Spec PySem.Calls PySem.W L2 So Tb
section
variable{X:Cx}{B:Bs}{W:Wi}{K:ai}
end
end Vl
namespace Vl
open PySem PySem.Spec PySem.Calls PySem.W L2
section
variable{P:aS}{w:az}{K:c_}{mg:Str->Option aa}{base:aE}{x:Str}{st:bg}{N ps:List Str}{k:Nat}
noncomputable abbrev HbD(P:aS)(w:az)(K:c_)(mg:Str->Option aa)(base:aE)(N:List Str)(x:Str)(st:bg)(k:Nat)(g:aD->Rs Mv):Prop :=
 ∀(f:ae) (cdv:aa) (A:ba) (outer:List Env) (s:af) (H:Hp) (E:XK) (B:Bs),jt k (A.deeper (kX x (aF st) s.heap.objs.size f cdv)) ->
  qK (qt (wC P w K) P w K mg base N x (aF st) f cdv A outer s H E) (fun c n _ H'=>E (Bo c n) none H') ->
  SD (qt (wC P w K) P w K mg base N x (aF st) f cdv A outer s H E) B (cO st) g
theorem ahf{g:aD->Rs Mv}(F:gC K mg x st)(S:bF N ps (aF st))(hb:HbD P w K mg base N x st k g)(hbi:Bi x st ps:=by intro _ _ _ _ _ _ us hl;rcases us with _|⟨_,_|⟨_,_|⟨_,_|⟨_,_|⟨_,us⟩⟩⟩⟩⟩ <;> first|rfl|(simp only[ck,d4]at hl;lia)) :
  OkD P w K mg base x (k + 1) ps.length (fun ds=>g (aU N ds)):=let ⟨f,_,F,hm⟩:=F;aeP F hm S hbi (hb f)
end
section
variable{X:Cx}{B:Bs}{W:Wi}
end
section
variable{X:Cx}{B:Bs}
end
section
variable{P:aS}{w:az}{K:c_}{mg:Str->Option aa}{base:aE}
end
end Vl
namespace L2
open PySem PySem.Spec PyProof.Rows Vl
structure akh (P:aS)(w:az)(K:ai)(mg:Str->Option aa)(base:aE)(k:Nat)(f:ae)(fd:df)(ps:List Str)(sp:List V->Hp->VK->Prop):Prop where
 len:∀vs H Q,sp vs H Q->vs.length=ps.length
 run:∀(A:ba) (ea:ae) (outer:List Env) (s:af) (H:Hp) (args:Args) (us:List aa) (vs:List V) (Q:VK),jt k A->Tn P w K mg base A outer s H->iX s fd args (ps.zip us)->Vals vs us->sp vs H Q ->
  i4 (ay P w) (A.mark (some (.ref ea))) (.call (.ref f) args) (CR (fun _ _ _ _ _ _=>False) outer P w H s Q fun _ _ _=>False) s
end L2
namespace Vl
open PySem PySem.Spec PySem.Calls PySem.W L2
section
variable{P:aS}{w:az}{K:c_}{mg:Str->Option aa}{base:aE}{x:Str}{st:bg}{N ps:List Str}{k:Nat}{g:aD->Ou}
end
section
variable{X:Cx}{B:Bs}{ea:ae}
end
section
variable{X:Cx}{B:Bs}{W:Wi}{G H:Hp}
theorem pinned{P:aS}{w:az}{H':Hp}{h:aE}{d:ae}{U:ae->List Int->Prop}{bh:List (List Int×V)}(z:gq P w H' h d (.ext (jr U d bh))):∃o,gq P w H' h d (.ext fun h=>h.get? d=some o/\jr U d bh h):=by obtain⟨hd,⟨o,ho⟩,hs⟩:=z;exact⟨o,⟨ho,hd⟩,⟨o,ho⟩,fun h1 h2 z k=>⟨k _ z.1,hs _ _ z.2 k⟩⟩
end
end Vl
namespace Vl
open PySem PySem.Spec PySem.Calls PySem.W L2 Dk
section
variable{prog:aS}{w:az}{A:ba}{E:aa->af->Prop}{s:af}
end
section
variable{X:Cx}{B:Bs}{W:Wi}
variable{a b:ag}{pos:Pos}{fa fb:aD->Rs D}
end
end Vl
namespace Vl
open PySem PySem.Spec PySem.W L2
section
variable{X:Cx}{B:Bs}{W:Wi}{σ:L2.St}{H:Hp}{K:ai}
end
end Vl
namespace Vl
open PySem PySem.Spec PySem.Calls PySem.W L2
section
variable{prog:aS}{w:az}{A:ba}{R:Result->af->Prop}{I:ae}{fp wr:List ae}{n:Nat}{P:Nat->aa->Prop}{St:Nat->aE->Prop}{dv:aa}
end
section
variable{X:Cx}{B:Bs}{W:Wi}{pins:List (ae×Obj)}{σ:St}
end
noncomputable abbrev Mp:=List (List Int×List D)
inductive LR (K:c_) (B:Bs) (G H:Hp):Mp->List (List Int×V)->Prop
 |nil:LR K B G H [] []
 |cons {k:List Int}{ds:List D}{l:ae}{vs:List V}{m:Mp}{bh:List (List Int×V)}:H l=some (.lst vs)->G l=none->B.2 l=none->bD K G ds vs->(∀p∈bh,p.2≠.ref l)->LR K B G H m bh->LR K B G H ((k,ds)::m) ((k,.ref l)::bh)
section
variable{K:c_}{B:Bs}{G H G' H':Hp}{m:Mp}{bh:List (List Int×V)}{σ:St}{ρ:aD}
end
section
variable{X:Cx}{B:Bs}{W:Wi}
end
section
variable{X:Cx}{B:Bs}{W:Wi}
noncomputable def Sd(c:aD->Rs Bool)(gb:aD->Ou):Nat->aD->Ou
 | 0,_=>.no
 |n + 1,ρ=>match c ρ with
  | .ok true=>(match gb ρ with
   | .nx ρ2=>Sd c gb n ρ2
   | .ct ρ2=>Sd c gb n ρ2
   | .bk ρ2=>.nx ρ2
   |o=>o)
  | .ok false=>.nx ρ
  | .ex e k=>.ex e k ρ
  | .no=>.no
noncomputable def Mw(n:Nat)(c:aD->Rs Bool)(gb:aD->Ou):aD->Ou:=Sd c gb n
theorem Jt(n:Nat){c:ag}{body:List bg}{pos:Pos}{fc:aD->Rs Bool}{gb:aD->Ou}(hp:kF (ay X.prog X.w) X.A X.env X.xe)(hc:ST X B W c fc)(hb:xq X B W body gb):SS X B W (.While c body [] pos) (Mw n fc gb):=by
 refine PS.imp (Sx hp hc hb) fun De σ H hq=>?_;obtain⟨ρ,G,s,p⟩:=hq;refine⟨fun m σ H=>∃ρ G,SR X.K B σ H ρ G/\cL X.K B W G (Sd fc gb m ρ) De,⟨n,ρ,G,s,p⟩,?_⟩;rintro m σ1 H1 ⟨ρ1,G1,s1,p1⟩;cases m with
 |zero=>exact p1.elim
 |succ m =>
  refine⟨ρ1,G1,s1,?_⟩;unfold Sd at p1;cases e:fc ρ1 with
  |no=>rw[e]at p1;exact p1
  |ex c k=>rw[e]at p1;exact fun H2 G2 x=>p1 σ1 H2 G2 (s1.ext x) x.gg
  |ok b =>
   rw[e]at p1;intro H2 G2 x;cases b with
   |false=>rw[if_neg (by simp)];exact p1 σ1 H2 G2 (s1.ext x) x.gg
   |true =>
    rw[if_pos rfl];dsimp only at p1;refine⟨fun σ' H'=>∃ρ' G',SR X.K B σ' H' ρ' G'/\cL X.K B W G' (Sd fc gb m ρ') De,fun σ' H' h=>⟨m,vx _,h⟩,ρ1,G2,s1.ext x,?_⟩;cases e2:gb ρ1 with
    |nx ρ2=>rw[e2]at p1;exact fun σ' H' G' s' q=>⟨ρ2,G',s',cL.same p1 (x.gg.trans q)⟩
    |ct ρ2=>rw[e2]at p1;exact fun σ' H' G' s' q=>⟨ρ2,G',s',cL.same p1 (x.gg.trans q)⟩
    |bk ρ2=>rw[e2]at p1;exact fun σ' H' G' s' q=>p1 σ' H' G' s' (x.gg.trans q)
    |rt d=>rw[e2]at p1;exact cL.same p1 x.gg
    |ex c n ρ2=>rw[e2]at p1;exact cL.same p1 x.gg
    |no=>rw[e2]at p1;exact p1
    |rx d ρ2=>rw[e2]at p1;exact cL.same p1 x.gg
    |rl ds=>rw[e2]at p1;exact cL.same p1 x.gg
instance (i j:Int):Decidable ((fun(_:Int) (j:Int)=>0<=j) i j):=inferInstanceAs (Decidable (0<=j))
noncomputable def Xw:=gI (fun _ j=>0<=j) fun i j=>D.int (i / 2 ^ j.toNat)
noncomputable def abg:=gI0 fun i j=>D.int (o_ i j)
variable{a b:ag}{pos:Pos}{fa fb:aD->Rs D}
theorem aeQ(ha:SE X B W a fa)(hb:SE X B W b fb):SE X B W (.BinOp a .RShift b pos) (aQ Xw fa fb):=uQ adg (Hr fun _ _ _=>aX.mpr rfl) ha hb
theorem aeR(ha:SE X B W a fa)(hb:SE X B W b fb):SE X B W (.BinOp a .BitAnd b pos) (aQ abg fa fb):=uQ adh (wj fun _ _ _=>aX.mpr rfl) ha hb
noncomputable def FnV(K:c_)(mg:Str->Option aa)(x:Str):Prop:=∃f o fd,mg x=some (.ref f)/\dQ K cw x=some (some (.ref f))/\K.lookup f=some o/\o.data=.func fd
theorem Dn.fnv{K:c_}{mg:Str->Option aa}{x:Str}{st:bg}{h:aE}(a:Dn K x st)(Y:K.In h)(G:h.Ns cw mg):FnV K mg x:=by obtain⟨f,oc,od,sl,kV,dc,pm,an,cd,ct,h1,h2,_⟩:=id a;obtain⟨f',fd,F,hm⟩:=a.ent Y G;have e:mg x=some (.ref f):=mg_of Y G h1;exact⟨f,_,_,e,h1,h2,rfl⟩
theorem ahg{x:Str}{pos:Pos}(h:FnV X.K X.mg x)(hg:Gl X x:=by rfl)(hd:qx x:=by decide):SE X B W (.Name x pos) (fC (.fn x)):=by obtain⟨f,o,fd,hm,hn,lk,ho⟩:=h;exact ZQ (Zk (v:=.ref f) hg hm rfl hd) fun G=>Ec.mpr ⟨f,o,fd,rfl,hn,lk,ho⟩
noncomputable abbrev Ntb:=List (Str×(List D->Rs D))
noncomputable def Ju(i n:Nat)(tb:Ntb)(fs:aD->Rs (List D)):aD->Rs D:=fun ρ=>match ρ[i]? with
 |some (.fz (.fn y))=>(match tb.lookup y with
  |some g=>(fs ρ).bind fun ds=>if ds.length=n then (match g ds with|.ok d=>.ok d|_=>.no) else .no
  |none=>.no)
 |_=>.no
theorem abh(i:Nat){x:Str}{p pos:Pos}{e:ag}{es:List ag}{fs:aD->Rs (List D)}{k n kr:Nat}{tb:Ntb}(O:∀y g,tb.lookup y=some g->iG X.prog X.w X.K X.mg X.base y k n g/\FnV X.K X.mg y)(hr:jt kr X.A)(ha:SA X B W (e::es) fs)
  (hN:X.N[i]?=some x:=by rfl) (hv:Gz X.env.scope x:=by first|exact Or.inl rfl|exact Or.inr (Or.inl rfl)|exact Or.inr (Or.inr rfl)) (hd:qx x:=by decide)
  (hcd:GP x:=by decide) (he:bb (e::es) X.env=(false,bj e X.env)::bb es X.env:=by rfl) (hpl:(cS pos (bb es X.env)).any (·.1)=false:=by rfl) (hkr:k<=kr:=by decide) :
  SE X B W (.Call (.Name x p) (e::es) [] pos) (Ju i n tb fs):=by
 intro pins s σ H Q I hq;obtain⟨ρ,G,sr,q⟩:=hq;unfold Ju at q;split at q
 ·rename_i y e1;split at q
  ·rename_i g e2;obtain⟨⟨f,fd,ps,F,hm,hk,hb⟩,f',o',fd',hm',hn',lk',ho'⟩:=O y g e2;rw[hm]at hm';cases hm';obtain⟨v,e3,r⟩:=sr.fz i _ e1;obtain⟨a,o,fd2,rfl,hn,lk,ho⟩:=Ec.mp r;rw[hn']at hn;cases hn;refine nL (jq (iw (pos:=p) hN hv hd hcd pins s σ H (fun v H1=>v=.ref f/\H1=H) I ⟨_,e3,rfl,rfl⟩) fun u s0 fU=>?_);obtain⟨v0,H0,I0,r0,ev,eh⟩:=fU;subst ev;subst eh;cases r0;have hA:=ha pos pins s0 σ H0 (fun vs H1=>spV X.K n g vs H1 Q fun _ _ _=>False) I0 ⟨ρ,G,sr,?_⟩
   ·refine tw (h₀:=X.base) I0.ok.mod.RN hk (jq hA fun us s1 fU=>⟨?_,?_⟩) he hpl
    ·obtain⟨vs,H1,I1,r1,q1⟩:=fU;exact I1.GR
    obtain⟨vs,H1,I1,r1,q1⟩:=fU;have hl:(us++[]).length=ps.length:=by rw[dP,<- r1.length];exact F.len _ _ _ _ q1
    have hbb:=hb s1 us I1.GR hl;rw[dP]at hbb;refine pj (kQ (F.run X.A X.stack s1 H1 ⟨us,[]⟩ us vs Q _ (hr.mono hkr) I1.env0 hbb r1 q1) fun r s' hq=>?_);cases r with
    |error e=>obtain⟨ea,c,n,H',_,_,_,_,_,_,w⟩:=hq;exact w.elim
    |ok fl =>
     cases fl with
     |ret u=>exact I1.after hq
     |next=>exact eM hq
     |brk=>exact eM hq
     |cont=>exact eM hq
   ·cases e4:fs ρ with
    |no=>rw[e4]at q;exact q
    |ex c m=>rw[e4]at q;exact q
    |ok ds =>
     rw[e4]at q;intro vs H1 G1 x1 r1;have q':Post X.K W σ G H0 (if ds.length=n then (match g ds with|.ok d=>.ok d|_=>.no) else .no) Q:=q;by_cases hl:ds.length=n
     ·rw[if_pos hl]at q';refine⟨by rw[<- r1.length];exact hl,G1,ds,(sr.ext x1).ex0,r1,?_⟩;cases e5:g ds with
      |ok d=>rw[e5]at q';exact fun v H' G' y r=>q' v H' G' (x1.trans y) r
      |ex c m=>rw[e5]at q';exact q'.elim
      |no=>rw[e5]at q';exact q'.elim
     ·rw[if_neg hl]at q';exact q'.elim
  ·exact q.elim
 ·exact q.elim
end
noncomputable abbrev Kv:=List (List Int×D)
noncomputable def Jv:Sl->Option Kv
 | .od kvs=>some kvs
 | .oe kvs=>some kvs
 |_=>none
noncomputable def tW:Sl->Kv->Sl
 | .od _,kvs=>.od kvs
 | .oe _,kvs=>.oe kvs
 |z,_=>z
theorem yr{z:Sl}{ds:Kv}(h:Jv z=some ds):z.own=true:=by cases z <;> first|rfl|cases h
theorem Rx{z:Sl}{ds es:Kv}(h:Jv z=some ds):(tW z es).own=true:=by cases z <;> first|rfl|cases h
theorem Ry{z:Sl}{ds es:Kv}(h:Jv z=some ds)(e:(tW z es).lnt=true):z.lnt=true:=by cases z <;> first|rfl|cases e|cases h
section
variable{X:Cx}{K:c_}{B:Bs}{W:Wi}{σ:St}{G H G' H':Hp}{ρ:aD}
theorem Xx{z:Sl}{ds es:Kv}{U:ae->List Int->Prop}{bh:List (List Int×V)}{a:ae}(h:Jv z=some ds)(hu:∀b ks,U b ks->UG K G b ks)(r:cM K G es bh):qG K G a (tW z es) (.ext (jr U a bh)):=by
 cases z <;> first|exact⟨U,bh,rfl,hu,r⟩|cases h
theorem SR.Jv(s:SR K B σ H ρ G){i:Nat}{z:Sl}{kvs:Kv}(q:ρ[i]?=some z)(hl:Vl.Jv z=some kvs) :
  ∃a U bh,σ[i]?=some (some (.ref a))/\H a=some (.ext (jr U a bh))/\G a=none/\B.2 a=none/\(∀b ks,U b ks->UG K G b ks)/\cM K G kvs bh:=by
 obtain⟨a,o,h1,h2,h3,h4,h5⟩:=s.own i z q (yr hl);cases z with
 |od es=>cases hl;obtain⟨U,bh,rfl,h6,r⟩:=h5;exact⟨a,U,bh,h1,h2,h3,h4,h6,r⟩
 |oe es=>cases hl;obtain⟨U,bh,rfl,h6,r⟩:=h5;exact⟨a,U,bh,h1,h2,h3,h4,h6,r⟩
 |_=>cases hl
theorem SR.ahi(s:SR K B σ H ρ G){i:Nat}{z:Sl}{ds es:Kv}{a:ae}{U:ae->List Int->Prop}{bh:List (List Int×V)}(q:ρ[i]?=some z)(hl:Vl.Jv z=some ds)(ha:σ[i]?=some (some (.ref a)))
  (e:Ext G (PL H a) G' H') (g:G' a=none) (h:H' a=some (.ext (jr U a bh))) (hu:∀b ks,U b ks->UG K G' b ks) (r:cM K G' es bh):SR K B σ H' (ρ.set i (tW z es)) G':=by
 have li:i < ρ.length:=(dm.mp q).1;obtain⟨a0,o0,h1,h2,h3,h4,h5⟩:=s.own i z q (yr hl);have ea:a0=a:=by rw[h1]at ha;injection ha with z;injection z with z;injection z
 subst ea;have mZ:∀{j:Nat}{x:Sl},(ρ.set i (tW z es))[j]?=some x->(i=j/\x=tW z es)∨(i≠j/\ρ[j]?=some x):=fun {j x} q=>by
  by_cases e:i=j
  ·subst e;rw[dy li]at q;cases q;exact .inl ⟨rfl,rfl⟩
  ·rw[cK e]at q;exact .inr ⟨e,q⟩
 refine⟨⟨s.en.gg.trans e.gg,fun b o w=>?_,e.gh,e.tp,fun b o w n=>?_⟩,by simp[s.len],fun j d w=>?_,fun j x w wx=>?_,fun j k x x' c z1 w1 z2 w2 z3 z4=>?_,fun j fs c z1 wl z2=>?_,fun y m=>?_⟩
 ·have ne:b≠a0:=aR w h4;exact e.hh b o (by rw[lH ne];exact s.en.hh b o w)
 ·have ne:b≠a0:=aR w h4;exact e.nw b o (by rw[lH ne];exact s.en.hh b o w) (s.en.nw b o w n)
 ·rcases mZ w with ⟨_,e1⟩|⟨_,w⟩
  ·have:=Rx (es:=es) hl;rw[<- e1]at this;cases this
  ·obtain⟨v,q1,q2⟩:=s.fz j d w;exact⟨v,q1,q2.mono e.gg⟩
 ·rcases mZ w with ⟨e1,e2⟩|⟨e1,w⟩
  ·subst e1;subst e2;exact⟨a0,_,ha,h,g,h4,Xx hl hu r⟩
  ·obtain⟨b,o,q1,q2,q3,q4,q5⟩:=s.own j x w wx;have ne:b≠a0:=fun e2=>by subst e2;exact e1 (s.ap i j z x b q (yr hl) w wx ha q1)
   exact⟨b,o,q1,e.hh b o (by rw[lH ne];exact q2),e.nw b o (by rw[lH ne];exact q2) q3,q4,q5.mono e.gg⟩
 ·have old:∀{l:Nat}{y:Sl},(ρ.set i (tW z es))[l]?=some y->y.own=true->∃y',ρ[l]?=some y'/\y'.own=true:=fun {l y} w wy=>by
   rcases mZ w with ⟨e1,e2⟩|⟨e1,w⟩
   ·subst e1;exact⟨z,q,yr hl⟩
   ·exact⟨y,w,wy⟩
  obtain⟨y1,p1,p2⟩:=old z1 w1;obtain⟨y2,p3,p4⟩:=old z2 w2;exact s.ap j k y1 y2 c p1 p2 p3 p4 z3 z4
 ·rcases mZ z1 with ⟨e1,e2⟩|⟨e1,w⟩
  ·subst e1;rw[e2]at wl;exact s.tie i z c q (Ry hl wl) z2
  ·exact s.tie j fs c w wl z2
 ·have t:=s.co y m;exact e.hh _ _ (by rw[lH (fun z=>by subst z;rw[h2]at t;exact h5.tab _ (et t))];exact t)
noncomputable def unE(j:Nat)(ρ:aD):aD:=match ρ[j]? with
 |some (.oe kvs)=>ρ.set j (.od kvs)
 |_=>ρ
theorem SR.unE(s:SR K B σ H ρ G)(j:Nat):SR K B σ H (unE j ρ) G:=by
 unfold Vl.unE;split
 ·rename_i kvs q;have li:j < ρ.length:=(dm.mp q).1;have mZ:∀{k:Nat}{x:Sl},(ρ.set j (.od kvs))[k]?=some x->(j=k/\x=.od kvs)∨(j≠k/\ρ[k]?=some x):=fun {k x} q=>by
   by_cases e:j=k
   ·subst e;rw[dy li]at q;cases q;exact .inl ⟨rfl,rfl⟩
   ·rw[cK e]at q;exact .inr ⟨e,q⟩
  have old:∀{l:Nat}{y:Sl},(ρ.set j (.od kvs))[l]?=some y->y.own=true->∃y',ρ[l]?=some y'/\y'.own=true:=fun {l y} w wy=>by
   rcases mZ w with ⟨e1,e2⟩|⟨e1,w⟩
   ·subst e1;exact⟨_,q,rfl⟩
   ·exact⟨y,w,wy⟩
  refine⟨s.en,by simp[s.len],fun i d w=>?_,fun i x w wx=>?_,fun i k x x' c z1 w1 z2 w2 z3 z4=>?_,fun i x c z1 wl z2=>?_,s.co⟩
  ·rcases mZ w with ⟨_,e1⟩|⟨_,w⟩
   ·cases e1
   ·exact s.fz i d w
  ·rcases mZ w with ⟨e1,e2⟩|⟨e1,w⟩
   ·subst e1;subst e2;obtain⟨a,o,h1,h2,h3,h4,h5⟩:=s.own j _ q rfl;exact⟨a,o,h1,h2,h3,h4,h5⟩
   ·exact s.own i x w wx
  ·obtain⟨y1,p1,p2⟩:=old z1 w1;obtain⟨y2,p3,p4⟩:=old z2 w2;exact s.ap i k y1 y2 c p1 p2 p3 p4 z3 z4
  ·rcases mZ z1 with ⟨e1,e2⟩|⟨e1,w⟩
   ·rw[e2]at wl;cases wl
   ·exact s.tie i x c w wl z2
 ·exact s
noncomputable def aeS{α:Type}(j:Nat)(f:aD->Rs α):aD->Rs α:=fun ρ=>f (unE j ρ)
theorem aeT(j:Nat){e:ag}{f:aD->Rs Bool}(h:ST X B W e f):ST X B W e (aeS j f):=PT.imp h fun σ H Q ⟨ρ,G,s,p⟩=>⟨unE j ρ,G,s.unE j,p⟩
noncomputable def Dp(j:Nat)(f:aD->Rs D):aD->Ou:=fun ρ=>match ρ[j]? with
 |some (.oe kvs)=>oR (f ρ) ρ fun k=>(match tu k with
  |some ks=>if kvs.length<=1000000/\(iu kvs ks).isSome then .nx (ρ.set j (.oe (jB kvs ks))) else .no
  |none=>.no)
 |_=>.no
theorem Qh(j:Nat){x:Str}{e:ag}{pos p1 p2 cp:Pos}{f:aD->Rs D}(hu:X.A.units + 8 < bu)(he:SE X B W e f)(hN:X.N[j]?=some x:=by rfl)(hv:Gz X.env.scope x:=by first|exact Or.inl rfl|exact Or.inr (Or.inl rfl)|exact Or.inr (Or.inr rfl))(hd:qx x:=by decide)
  (hcd:GP x:=by decide) (hst:bb [e] X.env=[(false,bj e X.env)]:=by rfl)
  (hbase:kM (.Name x p1) "pop" X.env (bj (.Name x p1) X.env)=bj (.Name x p1) X.env:=by rfl)
  (hfew:((cS cp (bb [e] X.env)).all (fun x=>!x.1) && (kN cp (kP [] X.env)).all (fun x=>x.1.isSome)
   && decide (([e]:List ag).length + ([]:List fE).length + (if ([]:List fE).isEmpty then 0 else 1) < 30))=true:=by rfl)
  (hline:(p2.endLine == cp.line)=true:=by rfl) (hplain:(cS cp (bb [] X.env)).any (·.1)=false:=by rfl)
  (hs:dS (.Call (.Attribute (.Name x p1) "pop" p2) [e] [] cp) none pos.line X.env=pure false:=by rfl) :
  SS X B W (.Expr (.Call (.Attribute (.Name x p1) "pop" p2) [e] [] cp) pos) (Dp j f):=by
 refine PS.imp (rO (PJ (ir (Nat.add_le_add_left (by decide) _) hu) (iw hN hv hd hcd) (gj he lF hst) hbase hst hfew hline hplain) hs) fun De σ H ⟨ρ,G,s,p⟩=>?_;unfold Dp at p;cases e2:ρ[j]? with
 |none=>rw[e2]at p;exact p.elim
 |some z =>
  rw[e2]at p;cases z with
  |oe kvs =>
   obtain⟨d0,U0,BJ,h1,h2,h3,h4,h5,h6⟩:=s.Jv e2 rfl;refine⟨d0,U0,BJ,h1,h2,ρ,G,s,gQ s p fun k v H' G' _ y r p'=>?_⟩;cases e1:tu k with
   |none=>rw[e1]at p';exact p'.elim
   |some ks =>
    rw[e1]at p';dsimp only at p';by_cases hc:kvs.length<=1000000/\(iu kvs ks).isSome
    ·rw[if_pos hc]at p';obtain⟨b',rfl,hb⟩:=FQ r e1;have q5:∀c js,U0 c js->UG X.K G' c js:=fun c js z=>Same.iy y.gg (h5 c js z);have q7:=h6.mono y.gg;rcases q7.get (ks:=ks) with ⟨w1,w2⟩|⟨dd,vv,w1,w2,w3⟩
     ·rw[w1]at hc;exact absurd hc.2 (by decide)
     ·refine⟨b',d0,ks,U0,BJ,vv,rfl,rfl,Same.iy y.gh hb,y.hh _ _ h2,fun c js z=>Same.iy y.gh (q5 c js z),by rw[<- q7.len];exact hc.1,w2,?_⟩;exact p' σ _ G' ((s.ext y).uW e2 rfl h1 rfl ⟨U0,_,rfl,q5,q7.out⟩ (fun _=>rfl)) (.refl _)
    ·rw[if_neg hc]at p';exact p'.elim
  |_=>exact p.elim
noncomputable def RE(K:c_)(a:ae)(G H:Hp)(Q:VK)(r:Rs (D×Kv)):Prop:=match r with
 | .ok (d,es)=>∀v H' G' U bh,Ext G (PL H a) G' H'->G' a=none->H' a=some (.ext (jr U a bh))->(∀b ks,U b ks->UG K G' b ks)->cM K G' es bh->Rep K G' d v->Q v H'
 |_=>False
noncomputable def spE(K:c_)(n:Nat)(g:Kv->List D->Rs (D×Kv)):Sp:=fun vs H Q E=>vs.length=n + 1/\∃a us G U bh es ds,vs=.ref a::us/\Ex0 K G H/\G a=none/\H a=some (.ext (jr U a bh))/\(∀b ks,U b ks->UG K G b ks)/\cM K G es bh/\bD K G ds us/\RE K a G H Q (g es ds)
noncomputable def qT(N:List Str)(es:Kv)(ds:List D):aD:=(.oe es::ds.map .fz)++fR (N.length - (ds.length + 1)) .no
noncomputable def aeU:Ou->Rs (D×Kv)
 | .rx d (.oe es::_)=>.ok (d,es)
 | .nx (.oe es::_)=>.ok (.non,es)
 |_=>.no
theorem Rz{N:List Str}{es:Kv}{ds:List D}{us:List V}{a:ae}{U:ae->List Int->Prop}{bh:List (List Int×V)}(e:Ex0 K G H)(g:G a=none)(h:H a=some (.ext (jr U a bh)))(hu:∀b ks,U b ks->UG K G b ks)(r0:cM K G es bh)(r:bD K G ds us) :
  SR K ⟨G,PL H a,a⟩ (L2.start N (.ref a::us)) H (qT N es ds) G:=by
 have z0:(qT N es ds)[0]?=some (.oe es):=rfl;have abj:∀(i:Nat) (z:Sl),(qT N es ds)[i]?=some z->z.own=true->i=0:=fun i z q w=>by
  cases i with
  |zero=>rfl
  |succ i =>
   have q':(ds.map Sl.fz++fR (N.length - (ds.length + 1)) .no)[i]?=some z:=q;by_cases hi:i < (ds.map Sl.fz).length
   ·rw[eT hi,di]at q';cases e1:ds[i]? with
    |none=>rw[e1]at q';cases q'
    |some d=>rw[e1]at q';cases q';cases w
   ·rw[gr (by lia),j5]at q';split at q' <;> cases q';cases w
 refine⟨⟨.refl _,fun b o w=>(zW w).2,e.gh,e.tp,fun b o w n=>n⟩,?_,fun i d q=>?_,fun i z q w=>?_,fun i j z z' c q1 w1 q2 w2 _ _=>(abj i z q1 w1).trans (abj j z' q2 w2).symm,fun i fs c q1 wl q2=>?_,e.co⟩
 ·unfold qT L2.start;simp[r.length]
 ·cases i with
  |zero=>cases (z0.symm.trans q)
  |succ i =>
   have q':(ds.map Sl.fz++fR (N.length - (ds.length + 1)) .no)[i]?=some (.fz d):=q;by_cases hi:i < (ds.map Sl.fz).length
   ·rw[eT hi,di]at q';cases e1:ds[i]? with
    |none=>rw[e1]at q';cases q'
    |some d' =>
     rw[e1]at q';cases q';obtain⟨v,h1,h2⟩:=r.get e1;refine⟨v,?_,h2⟩;show((us.map some)++fR (N.length - (us.length + 1)) none)[i]?=some (some v);rw[eT (by rw[cn,<- r.length];simpa using hi),di,h1];rfl
   ·rw[gr (by lia),j5]at q';split at q' <;> cases q'
 ·cases abj i z q w;cases (z0.symm.trans q);exact⟨a,_,rfl,h,g,vG,U,bh,rfl,hu,r0⟩
 ·cases abj i _ q1 (Sl.xY wl);have:some (some (V.ref a))=some (some (V.ref c)):=q2;injection this with this;injection this with this;injection this with this;exact this.symm
theorem RB{o:Ou}{Q:VK}{a:ae}(h:RE K a G H Q (aeU o)):cL K ⟨G,PL H a,a⟩ W G' o { nx:=fun _ H'=>Q .non H',rt:=Q }:=by
 cases o with
 |nx ρ' =>
  cases ρ' with
  |nil=>exact h.elim
  |cons z ρ' =>
   cases z with
   |oe es =>
    intro σ' H2 G2 s q;obtain⟨b,U,bh,h1,h2,h3,h4,h5,h6⟩:=s.Jv (i:=0) (z:=.oe es) (kvs:=es) rfl rfl;have eb:b=a:=s.tie 0 _ b rfl rfl h1;subst eb;exact h .non H2 G2 U bh s.en h3 h2 h5 h6 (pA.mpr rfl)
   |_=>exact h.elim
 |rx d ρ' =>
  cases ρ' with
  |nil=>exact h.elim
  |cons z ρ' =>
   cases z with
   |oe es =>
    intro v σ' H2 G2 s q r;obtain⟨b,U,bh,h1,h2,h3,h4,h5,h6⟩:=s.Jv (i:=0) (z:=.oe es) (kvs:=es) rfl rfl;have eb:b=a:=s.tie 0 _ b rfl rfl h1;subst eb;exact h v H2 G2 U bh s.en h3 h2 h5 h6 r
   |_=>exact h.elim
 |_=>exact h.elim
end
noncomputable def Oke(P:aS)(w:az)(K:c_)(mg:Str->Option aa)(base:aE)(x:Str)(k n:Nat)(v:Kv->List D->Rs (D×Kv)):Prop :=
 ∃f fd ps,qD P w K mg base (wC P w K) k f fd ps (spE K n v)/\mg x=some (.ref f)/\keepIn K (.ref f)=true/\Binds K fd ps []
section
variable{P:aS}{w:az}{K:c_}{mg:Str->Option aa}{base:aE}{x:Str}{st:bg}{N ps:List Str}{k n:Nat}{g:aD->Ou}
theorem ahj(F:gC K mg x st)(S:bF N ps (aF st))(hb:Hb P w K mg base N x st k g)(hbi:Bi x st ps:=by intro _ _ _ _ _ _ us hl;rcases us with _|⟨_,_|⟨_,_|⟨_,_|⟨_,_|⟨_,us⟩⟩⟩⟩⟩ <;> first|rfl|(simp only[ck,d4]at hl;lia))(hn:ps.length=n + 1:=by rfl) :
  Oke P w K mg base x (k + 1) n (fun es ds=>aeU (g (qT N es ds))):=by
 obtain⟨f,fd,F,hm⟩:=F;refine⟨f,fd,ps,?_,hm,F.kp,F.binds hbi⟩;obtain⟨oc,od,kV,doc,pm,an,cdv,ct,osl,rfl,lk,hcd⟩:=F.ex;refine Nz lk hcd S (fun vs H Q E h=>by rw[hn];exact h.1) fun A outer s H vs Q E hr _ h=>?_;obtain⟨_,a,us,G,U,bh,es,ds,rfl,e,g1,h1,hu,r0,r,h⟩:=h;dsimp only at h;exact⟨_,hb f cdv A outer s H E ⟨G,PL H a,a⟩ hr (qL jk rfl),qT N es ds,G,Rz e g1 h1 hu r0 r,RB h⟩
end
theorem abk{Pr:Str->(List D->Rs D)->Prop}:∀y g,kS y ([]:Ntb)=some g->Pr y g:=fun _ _ h=>nomatch h
theorem Xy{Pr:Str->(List D->Rs D)->Prop}{x:Str}{v:List D->Rs D}{tb:Ntb}(h:Pr x v)(t:∀y g,kS y tb=some g->Pr y g):∀y g,kS y ((x,v)::tb)=some g->Pr y g:=fun y g e=>by
 rw[j7]at e;split at e
 ·rename_i c;cases e;rw[eq_of_beq c];exact h
 ·exact t y g e
noncomputable def xE(i n:Nat)(g:Kv->List D->Rs (D×Kv))(fs:aD->Rs (List D×aD)):aD->Rs (D×aD):=fun ρ=>match ρ[i]? with
 |some z0=>(match Jv z0 with
  |some _=>bx (fs ρ) fun ds ρ1=>if ds.length=n then (match ρ1[i]? with
   |some z=>(match Jv z with
    |some es=>(match g es ds with
     | .ok (d,es')=>.ok (d,ρ1.set i (tW z es'))
     |_=>.no)
    |none=>.no)
   |none=>.no) else .no
  |none=>.no)
 |none=>.no
section
variable{X:Cx}{B:Bs}{W:Wi}
theorem Xz(i:Nat){x y:Str}{p py pos:Pos}{es:List ag}{fs:aD->Rs (List D×aD)}{k n kr:Nat}{g:Kv->List D->Rs (D×Kv)}(O:Oke X.prog X.w X.K X.mg X.base x k n g)(hr:jt kr X.A)(ha:SAX X B es fs)(hN:X.N[i]?=some y:=by rfl)(hv:Gz X.env.scope y:=by first|exact Or.inl rfl|exact Or.inr (Or.inl rfl)|exact Or.inr (Or.inr rfl))(hd:qx y:=by decide)
  (hcd:GP y:=by decide) (hg:Gl X x:=by rfl) (hdb:qx x:=by decide)
  (he:bb (.Name y py::es) X.env=(false,bj (.Name y py) X.env)::bb es X.env:=by rfl) (hpl:(cS pos (bb es X.env)).any (·.1)=false:=by rfl) (hkr:k<=kr:=by decide):SX X B (.Call (.Name x p) (.Name y py::es) [] pos) (xE i n g fs):=by
 obtain⟨f,fd,ps,F,hm,hk,hb⟩:=O;refine PE.imp (zX F (hr.mono hkr) hg hm hk hb (gj (iw (pos:=py) hN hv hd hcd) ha he) hdb he hpl) fun σ H Q ⟨ρ,G,s,p⟩=>?_;unfold xE at p;cases q:ρ[i]? with
 |none=>rw[q]at p;exact p.elim
 |some z0 =>
  rw[q]at p;dsimp only at p;cases q1:Jv z0 with
  |none=>rw[q1]at p;exact p.elim
  |some es0 =>
   rw[q1]at p;dsimp only at p;obtain⟨a,U0,BJ,h1,h2,h3,h4,h5,h6⟩:=s.Jv q q1;refine⟨_,h1,ρ,G,s,aeD (k:=fun ds ρ1=>if ds.length=n then (match ρ1[i]? with
    |some z=>(match Jv z with
     |some es=>(match g es ds with
      | .ok (d,es')=>.ok (d,ρ1.set i (tW z es'))
      |_=>.no)
     |none=>.no)
    |none=>.no) else .no) p fun ds ρ1 us H1 G1 s1 e1 r1 p1=>?_⟩
   by_cases hl:ds.length=n
   ·rw[if_pos hl]at p1;cases q2:ρ1[i]? with
    |none=>rw[q2]at p1;exact p1.elim
    |some z =>
     rw[q2]at p1;dsimp only at p1;cases q3:Jv z with
     |none=>rw[q3]at p1;exact p1.elim
     |some es1 =>
      rw[q3]at p1;dsimp only at p1;obtain⟨b,U,bh,k1,k2,k3,k4,k5,k6⟩:=s1.Jv q2 q3;have eb:b=a:=by rw[h1]at k1;injection k1 with z;injection z with z;injection z with z;exact z.symm
      subst eb;refine⟨by simp[<- r1.length,hl],b,us,G1,U,bh,es1,ds,rfl,s1.ex0,k3,k2,k5,k6,r1,?_⟩;cases q4:g es1 ds with
      |no=>rw[q4]at p1;exact p1.elim
      |ex c m=>rw[q4]at p1;exact p1.elim
      |ok dz =>
       obtain⟨d,es2⟩:=dz;rw[q4]at p1;exact fun v H' G' U' alI y g1 h' hu' r2 r3=>p1 v H' G' (s1.ahi q2 q3 k1 y g1 h' hu' r2) y.gg r3
   ·rw[if_neg hl]at p1;exact p1.elim
end
end Vl
namespace So
open PySem PySem.Spec PyProof.Rows
section
variable{prog:aS}{w:az}{A:ba}{E:aa->af->Prop}{s:af}
end
end So
namespace Vl
open PySem PySem.Spec L2 So Tb
section
variable{X:Cx}{B:Bs}{W:Wi}{K:ai}
end
end Vl
namespace Vl
open PySem PySem.Spec PySem.Calls PySem.W L2
noncomputable def spR(K:c_)(n:Nat)(g:List D->Rs (List D)):Sp:=fun vs H Q E=>vs.length=n/\∃G ds,Ex0 K G H/\bD K G ds vs/\(match g ds with
 | .ok es=>∀a ws H' G',Ext G H G' H'->G' a=none->H a=none->H' a=some (.lst ws)->bD K G' es ws->Q (.ref a) H'
 | .ex c m=>∀H' G',Ext G H G' H'->E (Bo c m) none H'
 | .no=>False)
noncomputable def ahk:Ou->Rs (List D)
 | .rl es=>.ok es
 | .ex c n _=>.ex c n
 |_=>.no
noncomputable def Okr(P:aS)(w:az)(K:c_)(mg:Str->Option aa)(base:aE)(x:Str)(k n:Nat)(v:List D->Rs (List D)):Prop :=
 ∃f fd ps,qD P w K mg base (wC P w K) k f fd ps (spR K n v)/\mg x=some (.ref f)/\keepIn K (.ref f)=true/\Binds K fd ps []
noncomputable def XC(v:List D->Rs (List D))(ds:List D):Rs D:=match v ds with|.ok es=>.ok (.lst es)|.ex c n=>.ex c n|.no=>.no
section
variable{P:aS}{w:az}{K:c_}{mg:Str->Option aa}{base:aE}{x:Str}{st:bg}{N ps:List Str}{k n:Nat}{g:aD->Ou}{v:List D->Rs (List D)}
theorem ahl(F:gC K mg x st)(S:bF N ps (aF st))(hb:Hb P w K mg base N x st k g)(hbi:Bi x st ps:=by intro _ _ _ _ _ _ us hl;rcases us with _|⟨_,_|⟨_,_|⟨_,_|⟨_,_|⟨_,us⟩⟩⟩⟩⟩ <;> first|rfl|(simp only[ck,d4]at hl;lia)) :
  Okr P w K mg base x (k + 1) ps.length (fun ds=>ahk (g (aU N ds))):=by
 obtain⟨f,fd,F,hm⟩:=F;refine⟨f,fd,ps,?_,hm,F.kp,F.binds hbi⟩;obtain⟨oc,od,kV,doc,pm,an,cdv,ct,osl,rfl,lk,hcd⟩:=F.ex;refine Nz lk hcd S (fun vs H Q E h=>h.1) fun A outer s H vs Q E hr _ h=>?_;obtain⟨_,G,ds,e,r,h⟩:=h;dsimp only at h;refine⟨_,hb f cdv A outer s H E ⟨G,H,0⟩ hr (qL jk rfl),aU N ds,G,yU e r,?_⟩;cases e1:g (aU N ds) with
 |rl es=>rw[e1]at h;exact fun a ws H' G' x q g1 b1 h1 r1=>h a ws H' G' x g1 b1 h1 r1
 |ex c m ρ'=>rw[e1]at h;exact fun σ' H' G' s' q=>h H' G' s'.en
 |_=>rw[e1]at h;exact h.elim
theorem Okr.f(O:Okr P w K mg base x k n v):Okf P w K mg base x k n v:=by
 obtain⟨f,fd,ps,F,r⟩:=O;refine⟨f,fd,ps,F.imp fun vs H Q E hq=>?_,r⟩;obtain⟨hl,G,ds,e0,r,h⟩:=hq;refine⟨hl,G,ds,e0,r,?_⟩;cases e:v ds with
 |ok es=>rw[e]at h;exact h
 |ex c m=>rw[e]at h;exact h.elim
 |no=>rw[e]at h;exact h
theorem Okr.data(O:Okr P w K mg base x k n v):iG P w K mg base x k n (XC v):=by
 obtain⟨f,fd,ps,F,r⟩:=O;refine⟨f,fd,ps,F.imp fun vs H Q E hq=>?_,r⟩;obtain⟨hl,G,ds,e0,r,h⟩:=hq;refine⟨hl,G,ds,e0,r,?_⟩;unfold XC at h;cases e:v ds with
 |ok es =>
  rw[e]at h;dsimp only;intro a ws H' G' x g1 h0 h1 r1;have gg:Same G' (upd G' a (.lst ws)):=fun b o z=>by rw[aW (aR z g1)];exact z
  refine h (.ref a) H' (upd G' a (.lst ws)) ⟨x.gg.trans gg,x.hh,fun b o z=>?_,fun b xs z=>?_,fun b o z w=>?_⟩ (bJ.mpr ⟨a,ws,rfl,.of aZ,r1.mono gg⟩)
  ·by_cases q:b=a
   ·subst q;rw[aZ]at z;cases z;exact h1
   ·rw[aW q]at z;exact x.gh _ _ z
  ·by_cases q:b=a
   ·subst q;rw[h1]at z;cases z
   ·rw[aW q];exact x.tp _ _ z
  ·rw[aW (aR z h0)];exact x.nw _ _ z w
 |ex c m=>rw[e]at h;exact h
 |no=>rw[e]at h;exact h
end
noncomputable def Aa(f:aD->Rs D):aD->Ou:=fun ρ=>match f ρ with
 | .ok (.lst es)=>.rl es
 | .ok _=>.no
 | .ex c n=>.ex c n ρ
 | .no=>.no
section
variable{X:Cx}{B:Bs}{W:Wi}
theorem XD{e:ag}{pos:Pos}{f:aD->Rs D}(h:PE X e (tN X.K B W f)):SS X B W (.Return (some e) pos) (Aa f):=by
 refine PS.imp (DK h) fun De σ H hq=>?_;obtain⟨ρ,G,s,p⟩:=hq;refine⟨ρ,G,s,?_⟩;unfold Aa at p;cases e1:f ρ with
 |no=>rw[e1]at p;exact p
 |ex c n=>rw[e1]at p;exact fun H' G' x=>p σ H' G' (s.ext x) x.gg
 |ok d =>
  rw[e1]at p;intro a H' nl;obtain⟨h0,G0,ws,es,x,g0,h1,rfl,r⟩:=nl;exact p a ws H' G0 (s.en.trans x) x.gg g0 (s.en.hh.free h0) h1 r
theorem Mx{tg iter:ag}{elt RW:ag}{sc:Scope}{pos rpos:Pos}{N:List Str}{nt:Nat}{caps:List Nat}{h:Tg}{ft:aD->Rs Bool}{fe:aD->Rs D}{fi:aD->Rs (List D)}
  (c:ug X sc N nt caps) (hc:X.calm=true) (hnames:sc.names.all (fun y=>y.2 != .local || sc.names.lookup y.1 == some .local)=true) (hi:SI X B W tg iter fi) (hno:nH h)
  (ht:∀s₀ H₀ C ex pins B',SG (dg X N s₀ H₀ sc (eV sc X.env) C ex pins) B' tg h)
  (hif:∀s₀ H₀ C ex pins B',ST (dg X N s₀ H₀ sc (eV sc X.env) C ex pins) B' WF RW ft)
  (he:∀s₀ H₀ C ex pins B',SE (dg X N s₀ H₀ sc (eV sc X.env) C ex pins) B' WF elt fe)
  (hs:∀x,fN iter X.env x=pure x:=by intro _;rfl) :
  SS X B W (.Return (some (.ListComp elt [⟨tg,iter,[RW],0⟩] sc pos)) rpos) (Aa (dW h ft fe nt caps fi)) :=
 XD (UL c hc (fun y hy hl=>by
  have:=ml.mp hnames y hy;simp only[j_,bne_iff_ne,beq_iff_eq,ne_eq]at this;exact this.elim (fun z=>absurd hl z) id) hi hno ht (.inr ⟨RW,rfl,hif⟩) he hs)
end
end Vl
namespace yt
open PySem PySem.Spec PySem.Calls PySem.W L2 Vl
def top(i:Nat):bg:=PySem.Challenge.pw_edgemoss_k73_loose_cells_and_comers.main.body.getD i (.Pass ⟨0,0,0,0⟩)
noncomputable abbrev qU:bg:=top 26
noncomputable abbrev qW:bg:=top 25
noncomputable abbrev pL:bg:=top 27
noncomputable abbrev mL:bg:=top 13
noncomputable abbrev Ab:bg:=top 2
noncomputable abbrev jC:bg:=top 4
noncomputable abbrev nT:bg:=top 6
noncomputable abbrev Ac:bg:=top 5
noncomputable abbrev Gf:bg:=top 3
noncomputable abbrev Ae:bg:=top 1
noncomputable abbrev pN:bg:=top 21
noncomputable abbrev XF:bg:=top 12
noncomputable abbrev iT:bg:=top 19
noncomputable abbrev qX:bg:=top 16
noncomputable abbrev uF:bg:=top 15
noncomputable abbrev kI:bg:=top 18
noncomputable abbrev qY:bg:=top 23
noncomputable abbrev qZ:bg:=top 24
noncomputable abbrev uG:bg:=top 29
noncomputable abbrev uH:bg:=top 20
noncomputable abbrev uI:bg:=top 17
noncomputable abbrev nU:bg:=top 30
noncomputable abbrev nW:bg:=top 28
noncomputable abbrev iU:bg:=top 31
noncomputable abbrev pO:bg:=top 33
noncomputable abbrev rm:bg:=top 32
noncomputable abbrev oM:bg:=top 34
noncomputable def Dq(c:Str):Bool:=c == "Endless"
noncomputable def Jw(c:Str):Bool:=c == "NoCell"
structure Txt (K:c_)(mg:Str->Option aa)(fW:ae)(iH:ae):Prop where
 aeW:mg "bool"=none
 dM:mg "divmod"=none
 ahm:mg "int"=none
 vK:mg "isinstance"=none
 rA:mg "len"=none
 aeX:mg "list"=none
 acq:mg "max"=none
 XH:mg "min"=none
 fJ:mg "range"=none
 ahn:mg "set"=none
 mO:mg "sorted"=none
 yu:mg "tuple"=none
 RD:mg "Endless"=some (.ref fW)
 oN:dQ K cw "Endless"=some (some (.ref fW))
 wR:excIn K fW [.type "ValueError",.type "Exception",.type "BaseException",.type "object"] "ValueError.__new__"=true
 afG:∀c C,Dq c=true->dQ K cw c=some (some (.ref C))->kitOne K (.ref C) (.ref fW)=some true
 Jx:mg "NoCell"=some (.ref iH)
 oU:dQ K cw "NoCell"=some (some (.ref iH))
 vL:excIn K iH [.type "ValueError",.type "Exception",.type "BaseException",.type "object"] "ValueError.__new__"=true
 aho:∀c C,Jw c=true->dQ K cw c=some (some (.ref C))->kitOne K (.ref C) (.ref iH)=some true
 cH:FnV K mg "neighbours"
theorem dN:bF ["number","way","row","column","by"] ["number"] (aF qU):=wQ (by decide+kernel)
theorem Gg:bF ["row","column"] ["row","column"] (aF qW):=wQ (by decide+kernel)
theorem aP:bF ["number","way","base","cells","many","k","at","top","tall","wide","row","column","bits","gone"] ["number"] (aF pL):=wQ (by decide+kernel)
theorem xT:bF ["shape"] ["shape"] (aF mL):=wQ (by decide+kernel)
theorem wU:bF ["cells","told","cell"] ["cells"] (aF Ab):=wQ (by decide+kernel)
theorem nY:bF ["cell","near","row"] ["cell"] (aF jC):=wQ (by decide+kernel)
theorem eO:bF ["left","first","near","chain","place","here","other"] ["left","first","near"] (aF nT):=wQ (by decide+kernel)
theorem sS:bF ["cells","near","left","told","cell"] ["cells","near"] (aF Ac):=wQ (by decide+kernel)
theorem Af:bF ["cell","row","column"] ["cell"] (aF Gf):=wQ (by decide+kernel)
theorem RG:bF ["cells"] ["cells"] (aF Ae):=wQ (by decide+kernel)
theorem rB:bF ["cell","there","lacking","together"] ["cell","there"] (aF pN):=wQ (by decide+kernel)
theorem aeY:bF ["shape","cell"] ["shape","cell"] (aF XF):=wQ (by decide+kernel)
theorem wV:bF ["shape","cell"] ["shape","cell"] (aF iT):=wQ (by decide+kernel)
theorem Gh:bF ["shape","cell"] ["shape","cell"] (aF qX):=wQ (by decide+kernel)
theorem Jy:bF ["shape","cell"] ["shape","cell"] (aF uF):=wQ (by decide+kernel)
theorem Ag:bF ["shape"] ["shape"] (aF kI):=wQ (by decide+kernel)
theorem Gi:bF ["script","k"] ["script","k"] (aF qY):=wQ (by decide+kernel)
theorem fM:bF ["cell","salt","one","number","j"] ["cell","salt"] (aF qZ):=wQ (by decide+kernel)
theorem Jz:bF ["shape","cell"] ["shape","cell"] (aF uG):=wQ (by decide+kernel)
theorem JB:bF ["cell","there"] ["cell","there"] (aF uH):=wQ (by decide+kernel)
theorem JC:bF ["shape","cell"] ["shape","cell"] (aF uI):=wQ (by decide+kernel)
theorem jD:bF ["shape","cell","found","row","column"] ["shape","cell"] (aF nU):=wQ (by decide+kernel)
theorem bY:bF ["cells","sides_v","left","cell","found","part","at","row","column","near"] ["cells","sides_v"] (aF nW):=wQ (by decide+kernel)
theorem oV:bF ["shape","cell","near"] ["shape","cell"] (aF iU):=wQ (by decide+kernel)
theorem nZ:bF ["shape","there","told"] ["shape","there"] (aF pO):=wQ (by decide+kernel)
theorem bR:bF ["number","base","cells","row","column","shape","k","at","by","spot","there"] ["number"] (aF rm):=wQ (by decide+kernel)
theorem pP:bF ["script","cell","cells","number","shape","spot","there","due","told"] ["script"] (aF oM):=wQ (by decide+kernel)
section
variable{P:aS}{w:az}{K:c_}{mg:Str->Option aa}{base:aE}{fW:ae}{iH:ae}
noncomputable def jl:aD->Ou :=
  bC (lM (fA (aj (aq 0) (aj (fC (.int 5)) aK)) Cv) (mD 2 (cF (aM 0) (cF (aM 1) mY))))
  (bC (oY (fT (aQ QW (aq 1) (fC (.int 1)))) (dh (fA (aj (fA (aj (fC (.int 0)) (aj (fC (.int 0)) aK)) cU) (aj (aq 0) aK)) cU)) qw)
  (bC (lM (fA (aj (aq 0) (aj (aQ cN (fA (aj (aQ bH (aQ dZ (fC (.int 2)) (aQ qu (fC (.int 10)) (fC (.int 12)))) (fC (.int 1))) (aj (fC (.int 2)) aK)) uV) (aq 1)) aK)) Cv) (mD 2 (cF (aM 0) (cF (aM 2) mY))))
  (bC (lM (fA (aj (aq 0) (aj (aQ cN (fA (aj (aQ bH (aQ dZ (fC (.int 2)) (aQ qu (fC (.int 10)) (fC (.int 12)))) (fC (.int 1))) (aj (fC (.int 2)) aK)) uV) (aq 1)) aK)) Cv) (mD 2 (cF (aM 0) (cF (aM 3) mY))))
  (bC (iB 4 (aQ cN (fA (aj (fC (.int 1)) (aj (aQ dZ (fC (.int 2)) (aQ qu (fC (.int 10)) (fC (.int 12)))) aK)) uV) (aq 1)))
  (dh (fA (aj (fA (aj (aQ jQ (aQ dZ (aq 2) (aq 4)) (aQ qu (fC (.int 10)) (fC (.int 12)))) (aj (aQ jQ (aQ dZ (aq 3) (aq 4)) (aQ qu (fC (.int 10)) (fC (.int 12)))) aK)) cU) (aj (aq 0) aK)) cU))))))
noncomputable def fj:List D->Rs D:=fun ds=>fQ (jl (aU ["number","way","row","column","by"] ds))
variable(T:Txt K mg fW iH)
include T
theorem Gj(F:gC K mg "_law_base" qU) :iG P w K mg base "_law_base" 1 1 fj :=
 gH (k:=0) (g:=jl) F dN fun f cdv A outer s H E B hr hx =>
  aG (gB (cP T.dM (sv 0) au) (gA rfl (bB (rg 0 dN.nd) (bB (rg 1 dN.nd) dH))))
  (aG (dI (Ot (sv 1) au) (aO (bM (bU (ak (bU (ak au (ak au aH))) (ak (sv 0) aH))))) cJ)
  (aG (gB (cP T.dM (sv 0) (bK (ud (ak (bV (jc au (mz au au)) au) (ak au aH))) (sv 1))) (gA rfl (bB (rg 0 dN.nd) (bB (rg 2 dN.nd) dH))))
  (aG (gB (cP T.dM (sv 0) (bK (ud (ak (bV (jc au (mz au au)) au) (ak au aH))) (sv 1))) (gA rfl (bB (rg 0 dN.nd) (bB (rg 3 dN.nd) dH))))
  (aG (dB 4 dN.nd (bK (ud (ak au (ak (jc au (mz au au)) aH))) (sv 1)))
  (aO (bM (bU (ak (bU (ak (iz (jc (sv 2) (sv 4)) (mz au au)) (ak (iz (jc (sv 3) (sv 4)) (mz au au)) aH))) (ak (sv 0) aH)))))))))
noncomputable def nu:aD->Ou :=
  dh (fA (aj (fA (aj (yW (aQ qu (fC (.int 10)) (fC (.int 12)))) (aj (fA (aj (aQ qu (fC (.int 10)) (fC (.int 12))) (aj (aq 0) aK)) vD) aK)) Jf) (aj (fA (aj (yW (aQ qu (fC (.int 10)) (fC (.int 12)))) (aj (fA (aj (aQ qu (fC (.int 10)) (fC (.int 12))) (aj (aq 1) aK)) vD) aK)) Jf) aK)) cU)
noncomputable def bZ:List D->Rs D:=fun ds=>fQ (nu (aU ["row","column"] ds))
theorem Gk(F:gC K mg "_law_kept" qW) :iG P w K mg base "_law_kept" 1 2 bZ :=
 gH (k:=0) (g:=nu) F Gg fun f cdv A outer s H E B hr hx =>
  aO (bM (bU (ak (PB rfl T.acq (Er (mz au au)) (FZ rfl T.XH (mz au au) (sv 0))) (ak (PB rfl T.acq (Er (mz au au)) (FZ rfl T.XH (mz au au) (sv 1))) aH))))
noncomputable def iI:aD->Ou :=
  bC (lM (fA (aj (aq 0) (aj (fC (.int 25)) aK)) Cv) (mD 2 (cF (aM 0) (cF (aM 6) mY))))
  (ql 3 (fC (.bl true)) (fA (aj (aQ bH (aQ cN (aq 2) (fC (.int 0))) (aQ uf (aq 6) (fC (.int 5)))) (aj (aQ bH (aQ cN (aq 2) (fC (.int 1))) (aQ iD (aq 6) (fC (.int 5)))) aK)) (bf 2 bZ)))
noncomputable def iJ:aD->Ou :=
  oY (RV (fT (aQ Zg (aq 10) (fA (aj (fC (.int 0)) (aj (aq 8) aK)) cU))) (fT (aQ Zg (aq 11) (fA (aj (fC (.int 0)) (aj (aq 9) aK)) cU)))) (ql 3 (fC (.bl true)) (fA (aj (aQ bH (aQ bH (aQ cN (aq 2) (fC (.int 0))) (aq 7)) (aq 10)) (aj (aQ bH (aQ jQ (aQ bH (aQ cN (aq 2) (fC (.int 1))) (aQ dZ (fC (.int 3)) (aq 5))) (aq 7)) (aq 11)) aK)) (bf 2 bZ))) qw
noncomputable def kJ:aD->Ou :=
  jj (aM 11) iJ (aQ bH (fC (.int 1)) (aq 9))
noncomputable def iK:aD->Ou :=
  bC (lM (fA (aj (aq 0) (aj (fC (.int 4)) aK)) Cv) (mD 2 (cF (aM 0) (cF (aM 7) mY))))
  (bC (lM (fA (aj (aq 0) (aj (fC (.int 5)) aK)) Cv) (mD 2 (cF (aM 0) (cF (aM 8) mY))))
  (bC (lM (fA (aj (aq 0) (aj (fC (.int 5)) aK)) Cv) (mD 2 (cF (aM 0) (cF (aM 9) mY))))
  (jj (aM 10) kJ (aQ bH (fC (.int 1)) (aq 8)))))
noncomputable def kO:aD->Ou :=
  oY (fT (aQ oE (aQ abg (aQ Xw (aq 12) (aq 11)) (fC (.int 1))) (fC (.int 1)))) (ql 3 (fC (.bl true)) (fA (aj (aQ bH (aQ cN (aq 2) (fC (.int 0))) (aq 10)) (aj (aQ bH (aQ cN (aq 2) (fC (.int 1))) (aq 11)) aK)) (bf 2 bZ))) qw
noncomputable def iM:aD->Ou :=
  bC (lM (fA (aj (aq 0) (aj (fC (.int 64)) aK)) Cv) (mD 2 (cF (aM 0) (cF (aM 12) mY))))
  (jj (aM 11) kO (fC (.int 6)))
noncomputable def iQ:aD->Ou :=
  bC (lM (fA (aj (aq 0) (aj (zV 3) aK)) Cv) (mD 2 (cF (aM 0) (cF (aM 6) mY))))
  (zU 3 (aQ cN (qR 3) (aq 6)))
noncomputable def lN:aD->Ou :=
  bC (lM (fA (aj (aq 0) (aj (fC (.int 5)) aK)) Cv) (mD 2 (cF (aM 0) (cF (aM 1) mY))))
  (bC (lM (fA (aj (aq 0) aK) (bf 1 fj)) (mD 2 (cF (aM 2) (cF (aM 0) mY))))
  (bC (Rr 3)
  (bC (lM (fA (aj (aq 0) (aj (fC (.int 6)) aK)) Cv) (mD 2 (cF (aM 0) (cF (aM 4) mY))))
  (bC (oY (fT (aQ oE (aq 1) (fC (.int 0)))) (lG (jj (aM 5) iI (aQ bH (aq 4) (fC (.int 1))))) qw)
  (bC (oY (fT (aQ oE (aq 1) (fC (.int 1)))) (lG (jj (aM 5) iK (aQ bH (fC (.int 1)) (aQ iD (aq 4) (fC (.int 3)))))) qw)
  (bC (oY (fT (aQ QW (aq 1) (fC (.int 1)))) (lG (jj (aM 10) iM (aQ bH (aq 4) (fC (.int 1))))) qw)
  (bC (lM (fA (aj (aq 0) (aj (fC (.int 3)) aK)) Cv) (mD 2 (cF (aM 0) (cF (aM 13) mY))))
  (bC (lG (jj (aM 5) iQ (fA (aj (aq 13) (aj (zV 3) aK)) vD)))
  (dh (fA (aj (fA (aj (qR 3) aK) nG) (aj (aq 0) aK)) cU))))))))))
noncomputable def jE:List D->Rs D:=fun ds=>fQ (lN (aU ["number","way","base","cells","many","k","at","top","tall","wide","row","column","bits","gone"] ds))
theorem BK(F:gC K mg "_law_board" pL) (jm:iG P w K mg base "_law_base" 1 1 fj) (cu:iG P w K mg base "_law_kept" 1 2 bZ):iG P w K mg base "_law_board" 2 1 jE :=
 gH (k:=1) (g:=lN) F aP fun f cdv A outer s H E B hr hx =>
  aG (gB (cP T.dM (sv 0) au) (gA rfl (bB (rg 0 aP.nd) (bB (rg 1 aP.nd) dH))))
  (aG (gB (bw jm hr hx (ak (sv 0) aH)) (gA rfl (bB (rg 2 aP.nd) (bB (rg 0 aP.nd) dH))))
  (aG (FT 3 aP.nd)
  (aG (gB (cP T.dM (sv 0) au) (gA rfl (bB (rg 0 aP.nd) (bB (rg 4 aP.nd) dH))))
  (aG (dI (qd (cg hr) (sv 1) au) (aO (jd (jw dq rfl T.fJ (bV (sv 4) au) (rg 5 aP.nd) (aG (gB (cP T.dM (sv 0) au) (gA rfl (bB (rg 0 aP.nd) (bB (rg 6 aP.nd) dH))))
  (aO (sI 3 (cg hr) ju (bw cu hr cV (ak (bV (bK (sv 2) au) (wB (sv 6) au)) (ak (bV (bK (sv 2) au) (jT (sv 6) au)) aH))))))))) cJ)
  (aG (dI (qd (cg hr) (sv 1) au) (aO (jd (jw dq rfl T.fJ (bV au (jT (sv 4) au)) (rg 5 aP.nd) (aG (gB (cP T.dM (sv 0) au) (gA rfl (bB (rg 0 aP.nd) (bB (rg 7 aP.nd) dH))))
  (aG (gB (cP T.dM (sv 0) au) (gA rfl (bB (rg 0 aP.nd) (bB (rg 8 aP.nd) dH))))
  (aG (gB (cP T.dM (sv 0) au) (gA rfl (bB (rg 0 aP.nd) (bB (rg 9 aP.nd) dH))))
  (aO (jw dq rfl T.fJ (bV au (sv 8)) (rg 10 aP.nd) (aO (jw dq rfl T.fJ (bV au (sv 9)) (rg 11 aP.nd) (aO (dI (Eh (Ub (aci (cg hr) (sv 10) (bU (ak au (ak (sv 8) aH)))) (Ku (aci (cg hr) (sv 11) (bU (ak au (ak (sv 9) aH))))))) (aO (sI 3 (cg hr) ju (bw cu hr cV (ak (bV (bV (bK (sv 2) au) (sv 7)) (sv 10)) (ak (bV (iz (bV (bK (sv 2) au) (jc au (sv 5))) (sv 7)) (sv 11)) aH))))) cJ)))))))))))) cJ)
  (aG (dI (Ot (sv 1) au) (aO (jd (jw dq rfl T.fJ (bV (sv 4) au) (rg 10 aP.nd) (aG (gB (cP T.dM (sv 0) au) (gA rfl (bB (rg 0 aP.nd) (bB (rg 12 aP.nd) dH))))
  (aO (jw dq rfl T.fJ au (rg 11 aP.nd) (aO (dI (qd (cg hr) (aeR (aeQ (sv 12) (sv 11)) au) au) (aO (sI 3 (cg hr) ju (bw cu hr cV (ak (bV (bK (sv 2) au) (sv 10)) (ak (bV (bK (sv 2) au) (sv 11)) aH))))) cJ)))))))) cJ)
  (aG (gB (cP T.dM (sv 0) au) (gA rfl (bB (rg 0 aP.nd) (bB (rg 13 aP.nd) dH))))
  (aG (jd (jw dq rfl T.fJ (FZ rfl T.XH (sv 13) (PK 3 T.rA)) (rg 5 aP.nd) (aG (gB (cP T.dM (sv 0) (PK 3 T.rA)) (gA rfl (bB (rg 0 aP.nd) (bB (rg 6 aP.nd) dH))))
  (aO (Ga 3 (cg hr) (bK (zT 3 rfl T.mO) (sv 6)))))))
  (aO (bM (bU (ak (vq T.yu (zT 3 rfl T.mO)) (ak (sv 0) aH)))))))))))))
noncomputable def rC:aD->Ou :=
  oY (fT (aQ cN (aq 0) (fC (.int 1)))) (QX "Endless" (aj (fC (.str "this is told of finite shapes alone")) aK)) qw
noncomputable def jF:List D->Rs D:=fun ds=>fQ (rC (aU ["shape"] ds))
theorem xU(F:gC K mg "check_finite" mL) :iG P w K mg base "check_finite" 1 1 jF :=
 gH (k:=0) (g:=rC) F xT fun f cdv A outer s H E B hr hx =>
  aO (dI (jR (bK (sv 0) au)) (aO (yV jk rfl rfl rfl T.RD T.oN T.wR nc (by decide) nc (ak iZ aH) (by decide))) cJ)
noncomputable def uJ:aD->Ou :=
  ql 1 (fC (.bl true)) (aq 2)
noncomputable def Ah:aD->Rs Mv :=
  zZ (Rr 1)
  (zZ (lG (tM (aM 2) uJ (aq 0)))
  (Xu 1))
noncomputable def rD:List D->Rs Mv:=fun ds=>Ah (aU ["cells","told","cell"] ds)
theorem RJ(F:gC K mg "marked" Ab) :OkD P w K mg base "marked" 1 1 rD :=
 ahf (k:=0) (g:=Ah) F wU fun f cdv A outer s H E B hr hx =>
  Qg (W:=WF) (FT 1 wU.nd)
  (Qg (W:=WF) (jd (pD dq rfl (sv 0) (rg 2 wU.nd) (aO (sI 1 (cg hr) ju (sv 2)))))
  (aeO 1))
noncomputable def rE:aD->Rs D :=
  fA (aj (aq 1) (aj (aq 0) aK)) cU
noncomputable def jG:aD->Ou :=
  Jh 1 (dW (aM 0) (fun _=>.ok true) rE 1 [2] (fL2 (aj (aQ jQ (aQ cN (aq 0) (fC (.int 1))) (fC (.int 1))) (aj (aQ bH (aQ cN (aq 0) (fC (.int 1))) (fC (.int 2))) aK)) Jg))
noncomputable def rF:aD->Rs D :=
  aq 0
noncomputable def mQ:aD->Rs Bool :=
  fT (aQ Bp (aq 0) (aq 1))
noncomputable def lO:aD->Ou :=
  bC (Bw 1 aK)
  (bC (lG (qI (aM 2) jG (aj (aQ jQ (aQ cN (aq 0) (fC (.int 0))) (fC (.int 1))) (aj (aQ bH (aQ cN (aq 0) (fC (.int 0))) (fC (.int 2))) aK))))
  (FJ 1 (dh (dW (aM 0) mQ rF 1 [0] (fL (aq 1) Zf)))))
noncomputable def cH:List D->Rs D:=fun ds=>fQ (lO (aU ["cell","near","row"] ds))
theorem BL(F:gC K mg "neighbours" jC) :iG P w K mg base "neighbours" 1 1 cH :=
 gH (k:=0) (g:=lO) F nY fun f cdv A outer s H E B hr hx =>
  aG (wM 1 nY.nd aH)
  (aG (jd (yS dq rfl T.fJ (iz (bK (sv 0) au) au) (bV (bK (sv 0) au) au) (rg 2 nY.nd) (aO (aaY 1 (aat (pG (aF jC) ["cell","near","row"] (N:=["column","row"]) (nt:=1) (caps:=[2]) (by decide+kernel)) rfl (by decide+kernel) (Ru T.fJ (iz (bK (sv 0) au) au) (bV (bK (sv 0) au) au)) jU (fun s₀ H₀ C ex pins B1=>rg 0 (show lI (["column","row"]:List Str) by decide)) (fun s₀ H₀ C ex pins B1=>bU (ak (sv 1) (ak (sv 0) aH))))))))
  (zO 1 (aO (bM (wG (pG (aF jC) ["cell","near","row"] (N:=["other","cell"]) (nt:=1) (caps:=[0]) (by decide+kernel)) rfl (by decide+kernel) (yc (sv 1)) jU (fun s₀ H₀ C ex pins B1=>rg 0 (show lI (["other","cell"]:List Str) by decide)) (fun s₀ H₀ C ex pins B1=>Hz (cg hr) (sv 0) (sv 1)) (fun s₀ H₀ C ex pins B1=>sv 0))))))
noncomputable def cI:Ntb:=[("neighbours",cH)]
theorem pQ(gU:iG P w K mg base "neighbours" 1 1 cH):∀y g,kS y cI=some g->iG P w K mg base y 1 1 g/\FnV K mg y :=
 Xy ⟨gU,T.cH⟩ (abk)
noncomputable def iV:aD->Ou :=
  oY (aeS 0 (fT (jP 0 (aq 6)))) (bC (Dp 0 (aq 6))
  (wL 3 (aq 6))) qw
noncomputable def iW:aD->Ou :=
  bC (iB 5 (xJ 3 (aQ cN (aq 3) (aq 4))))
  (bC (tM (aM 6) iV (Ju 2 1 cI (aj (aq 5) aK)))
  (iB 4 (aQ bH (aq 4) (fC (.int 1)))))
noncomputable def kW:aD->Ou :=
  bC (Bw 3 (aj (aq 1) aK))
  (bC (Dp 0 (aq 1))
  (bC (iB 4 (fC (.int 0)))
  (bC (lG (Mw 1000 (lJ 3 (fT (aQ gLt (aq 4) (fA (aj (aq 3) aK) mC)))) iW))
  (FJ 3 (ahb (xP (aq 3)))))))
noncomputable def cX:Kv->List D->Rs (D×Kv):=fun es ds=>aeU (kW (qT ["left","first","near","chain","place","here","other"] es ds))
theorem Ai(F:gC K mg "taken_chain" nT) (fZ:∀y g,kS y cI=some g->iG P w K mg base y 1 1 g/\FnV K mg y):Oke P w K mg base "taken_chain" 2 2 cX :=
 ahj (k:=1) (g:=kW) F eO fun f cdv A outer s H E B hr hx =>
  aG (wM 3 eO.nd (ak (sv 1) aH))
  (aG (Qh 0 (cg hr) (sv 1))
  (aG (dB 4 eO.nd au)
  (aG (jd (Jt 1000 dq (yq 3 (Vd (sv 4) (pC T.rA (sv 3)))) (aG (dB 5 eO.nd (Gb 3 (bK (sv 3) (sv 4))))
  (aG (pD dq rfl (abh 2 fZ hr (ak (sv 5) aH)) (rg 6 eO.nd) (aO (dI (aeT 0 (FW 0 (cg hr) (sv 6))) (aG (Qh 0 (cg hr) (sv 6))
  (aO (zN 3 (sv 6)))) cJ)))
  (aO (dB 4 eO.nd (bV (sv 4) au)))))))
  (zO 3 (aO (aeE (aji (W:=WF) (sv 3))))))))
noncomputable def jX:aD->Ou :=
  oY (fT (jP 2 (aq 4))) (PN 3 (xE 2 2 cX (xPA (aj (aq 4) (aj (aq 1) aK))))) qw
noncomputable def vM:aD->Ou :=
  bC (Ge 2 1 rD (aj (aq 0) aK))
  (bC (Bw 3 aK)
  (bC (lG (tM (aM 4) jX (fA (aj (aq 0) aK) nP)))
  (FJ 3 (dh (aq 3)))))
noncomputable def rG:List D->Rs D:=fun ds=>fQ (vM (aU ["cells","near","left","told","cell"] ds))
theorem RK(F:gC K mg "chains" Ac) (Aj:OkD P w K mg base "marked" 1 1 rD) (oh:Oke P w K mg base "taken_chain" 2 2 cX):iG P w K mg base "chains" 3 2 rG :=
 gH (k:=2) (g:=vM) F sS fun f cdv A outer s H E B hr hx =>
  aG (Xv 2 Aj hr sS.nd (ak (sv 0) aH))
  (aG (wM 3 sS.nd aH)
  (aG (jd (pD dq rfl (zQ T.mO (sv 0)) (rg 4 sS.nd) (aO (dI (FW 2 (cg hr) (sv 4)) (aO (abd 3 (Xz 2 oh hr (aha (W:=WF) (ak (sv 4) (ak (sv 1) aH)))))) cJ))))
  (zO 3 (aO (bM (sv 3))))))
noncomputable def yw:aD->Ou :=
  bC (iB 1 (aQ cN (aq 0) (fC (.int 0))))
  (bC (iB 2 (aQ cN (aq 0) (fC (.int 1))))
  (dh (fA (aj (fA (aj (aQ jQ (aq 1) (fC (.int 1))) (aj (aq 2) aK)) cU) (aj (fA (aj (aq 1) (aj (aQ jQ (aq 2) (fC (.int 1))) aK)) cU) (aj (fA (aj (aq 1) (aj (aQ bH (aq 2) (fC (.int 1))) aK)) cU) (aj (fA (aj (aQ bH (aq 1) (fC (.int 1))) (aj (aq 2) aK)) cU) aK)))) uV)))
noncomputable def sU:List D->Rs D:=fun ds=>fQ (yw (aU ["cell","row","column"] ds))
theorem XJ(F:gC K mg "sides" Gf) :iG P w K mg base "sides" 1 1 sU :=
 gH (k:=0) (g:=yw) F Af fun f cdv A outer s H E B hr hx =>
  aG (dB 1 Af.nd (bK (sv 0) au))
  (aG (dB 2 Af.nd (bK (sv 0) au))
  (aO (bM (ud (ak (bU (ak (iz (sv 1) au) (ak (sv 2) aH))) (ak (bU (ak (sv 1) (ak (iz (sv 2) au) aH))) (ak (bU (ak (sv 1) (ak (bV (sv 2) au) aH))) (ak (bU (ak (bV (sv 1) au) (ak (sv 2) aH))) aH))))))))
noncomputable def vN:aD->Ou :=
  dh (fA (aj (zM (fK (aq 0))) aK) nG)
noncomputable def rH:List D->Rs D:=fun ds=>fQ (vN (aU ["cells"] ds))
theorem RL(F:gC K mg "rising" Ae) :iG P w K mg base "rising" 1 1 rH :=
 gH (k:=0) (g:=vN) F RG fun f cdv A outer s H E B hr hx =>
  aO (bM (vq T.yu (Lk rfl T.mO (aeu rfl (cg hr) T.ahn (sv 0)))))
noncomputable def vO:aD->Rs D :=
  aq 0
noncomputable def pR:aD->Rs Bool :=
  fT (aQ Ln (aq 0) (aq 1))
noncomputable def jg:aD->Ou :=
  bC (oY (fT (aQ oE (fA (aj (aq 1) aK) mC) (fC (.int 0)))) (dh (fA (aj (fC (.str "alone")) aK) cU)) qw)
  (bC (iB 2 (dW (aM 0) pR vO 1 [1] (fL (fA (aj (aq 0) aK) (bf 1 sU)) Zf)))
  (bC (oY (fT (aQ oE (fA (aj (aq 2) aK) mC) (fC (.int 0)))) (dh (fA (aj (fC (.str "inner")) aK) cU)) qw)
  (bC (iB 3 (fA (aj (aq 1) (aj (fC (.fn "neighbours")) aK)) (bf 2 rG)))
  (bC (oY (fT (aQ QW (fA (aj (aq 3) aK) mC) (fC (.int 1)))) (dh (fA (aj (fC (.str "bridge")) (aj (fA (aj (aQ cN (aq 3) (fC (.int 0))) aK) (bf 1 rH)) aK)) cU)) qw)
  (dh (fA (aj (fC (.str "loose")) (aj (aQ cN (aq 3) (fC (.int 0))) (aj (aQ cN (aq 2) (fC (.int 0))) aK))) cU))))))
noncomputable def gJ:List D->Rs D:=fun ds=>fQ (jg (aU ["cell","there","lacking","together"] ds))
theorem JD(F:gC K mg "paper_by" pN) (Gm:iG P w K mg base "sides" 1 1 sU) (Ak:iG P w K mg base "chains" 3 2 rG) (Al:iG P w K mg base "rising" 1 1 rH):iG P w K mg base "paper_by" 4 2 gJ :=
 gH (k:=3) (g:=jg) F rB fun f cdv A outer s H E B hr hx =>
  aG (dI (qd (cg hr) (pC T.rA (sv 1)) au) (aO (bM (bU (ak iZ aH)))) cJ)
  (aG (Df 2 rB.nd (pG (aF pN) ["cell","there","lacking","together"] (N:=["side","there"]) (nt:=1) (caps:=[1]) (by decide+kernel)) rfl (by decide+kernel) (yc (bw Gm hr hx (ak (sv 0) aH))) jU (fun s₀ H₀ C ex pins B1=>rg 0 (show lI (["side","there"]:List Str) by decide)) (fun s₀ H₀ C ex pins B1=>Wq (cg hr) (sv 0) (sv 1)) (fun s₀ H₀ C ex pins B1=>sv 0))
  (aG (dI (qd (cg hr) (pC T.rA (sv 2)) au) (aO (bM (bU (ak iZ aH)))) cJ)
  (aG (dB 3 rB.nd (bw Ak hr hx (ak (sv 1) (ak (ahg T.cH) aH))))
  (aG (dI (Ot (pC T.rA (sv 3)) au) (aO (bM (bU (ak iZ (ak (bw Al hr hx (ak (bK (sv 3) au) aH)) aH))))) cJ)
  (aO (bM (bU (ak iZ (ak (bK (sv 3) au) (ak (bK (sv 2) au) aH))))))))))
noncomputable def Qi:aD->Ou :=
  dh (aQ Bp (aQ Zg (aq 1) (aQ cN (aq 0) (fC (.int 0)))) (aQ cN (aq 0) (fC (.int 1))))
noncomputable def vP:List D->Rs D:=fun ds=>fQ (Qi (aU ["shape","cell"] ds))
theorem aeZ(F:gC K mg "has" XF) :iG P w K mg base "has" 1 2 vP :=
 gH (k:=0) (g:=Qi) F aeY fun f cdv A outer s H E B hr hx =>
  aO (bM (abT (cg hr) (ach (cg hr) (sv 1) (bK (sv 0) au)) (bK (sv 0) au)))
noncomputable def vQ:aD->Rs D :=
  aq 0
noncomputable def nA:aD->Rs Bool :=
  fT (fA (aj (aq 1) (aj (aq 0) aK)) (bf 2 vP))
noncomputable def iY:aD->Ou :=
  dh (dW (aM 0) nA vQ 1 [0] (fL (fA (aj (aq 1) aK) (bf 1 cH)) Zf))
noncomputable def cR:List D->Rs D:=fun ds=>fQ (iY (aU ["shape","cell"] ds))
theorem wW(F:gC K mg "neighbours_in" iT) (gU:iG P w K mg base "neighbours" 1 1 cH) (vR:iG P w K mg base "has" 1 2 vP):iG P w K mg base "neighbours_in" 2 2 cR :=
 gH (k:=1) (g:=iY) F wV fun f cdv A outer s H E B hr hx =>
  aO (bM (wG (pG (aF iT) ["shape","cell"] (N:=["other","shape"]) (nt:=1) (caps:=[0]) (by decide+kernel)) rfl (by decide+kernel) (yc (bw gU hr hx (ak (sv 1) aH))) jU (fun s₀ H₀ C ex pins B1=>rg 0 (show lI (["other","shape"]:List Str) by decide)) (fun s₀ H₀ C ex pins B1=>jR (bw vR hr cV (ak (sv 1) (ak (sv 0) aH)))) (fun s₀ H₀ C ex pins B1=>sv 0)))
noncomputable def nC:aD->Ou :=
  bC (oY (tY (fT (fA (aj (aq 0) (aj (aq 1) aK)) (bf 2 vP)))) (QX "NoCell" (aj (fC (.str "loose are cells of the shape alone")) aK)) qw)
  (dh (fA (aj (aq 1) (aj (fA (aj (aq 0) (aj (aq 1) aK)) (bf 2 cR)) aK)) (bf 2 gJ)))
noncomputable def lD:List D->Rs D:=fun ds=>fQ (nC (aU ["shape","cell"] ds))
theorem Gn(F:gC K mg "why_loose" qX) (vR:iG P w K mg base "has" 1 2 vP) (jY:iG P w K mg base "paper_by" 4 2 gJ) (dD:iG P w K mg base "neighbours_in" 2 2 cR):iG P w K mg base "why_loose" 5 2 lD :=
 gH (k:=4) (g:=nC) F Gh fun f cdv A outer s H E B hr hx =>
  aG (dI (uc (jR (bw vR hr hx (ak (sv 0) (ak (sv 1) aH))))) (aO (yV jk rfl rfl rfl T.Jx T.oU T.vL nc (by decide) nc (ak iZ aH) (by decide))) cJ)
  (aO (bM (bw jY hr hx (ak (sv 1) (ak (bw dD hr hx (ak (sv 0) (ak (sv 1) aH))) aH)))))
noncomputable def pU:aD->Ou :=
  dh (aQ oE (aQ cN (fA (aj (aq 0) (aj (aq 1) aK)) (bf 2 lD)) (fC (.int 0))) (fC (.str "loose")))
noncomputable def jh:List D->Rs D:=fun ds=>fQ (pU (aU ["shape","cell"] ds))
theorem JF(F:gC K mg "is_loose" uF) (rJ:iG P w K mg base "why_loose" 5 2 lD):iG P w K mg base "is_loose" 6 2 jh :=
 gH (k:=5) (g:=pU) F Jy fun f cdv A outer s H E B hr hx =>
  aO (bM (Hy (cg hr) (bK (bw rJ hr hx (ak (sv 0) (ak (sv 1) aH))) au) iZ))
noncomputable def qm:aD->Rs D :=
  aq 0
noncomputable def lK:aD->Rs Bool :=
  fT (fA (aj (aq 1) (aj (aq 0) aK)) (bf 2 jh))
noncomputable def kY:aD->Ou :=
  bC (KD (fA (aj (aq 0) aK) (bf 1 jF)))
  (Aa (dW (aM 0) lK qm 1 [0] (fL (aQ cN (aq 0) (fC (.int 0))) asT)))
noncomputable def dU:List D->Rs (List D):=fun ds=>ahk (kY (aU ["shape"] ds))
theorem Am(F:gC K mg "loose_cells" kI) (mR:iG P w K mg base "check_finite" 1 1 jF) (jZ:iG P w K mg base "is_loose" 6 2 jh):Okr P w K mg base "loose_cells" 7 1 dU :=
 ahl (k:=6) (g:=kY) F Ag fun f cdv A outer s H E B hr hx =>
  aG (adW (bw mR hr hx (ak (sv 0) aH)))
  (aO (Mx (pG (aF kI) ["shape"] (N:=["cell","shape"]) (nt:=1) (caps:=[0]) (by decide+kernel)) rfl (by decide+kernel) (Vf (bK (sv 0) au)) jU (fun s₀ H₀ C ex pins B1=>rg 0 (show lI (["cell","shape"]:List Str) by decide)) (fun s₀ H₀ C ex pins B1=>jR (bw jZ hr cV (ak (sv 1) (ak (sv 0) aH)))) (fun s₀ H₀ C ex pins B1=>sv 0)))
noncomputable def jo:aD->Ou :=
  bC (oY (fT (aQ gLt (aq 1) (fA (aj (aq 0) aK) mC))) (dh (aQ cN (aq 0) (aq 1))) qw)
  (dh (fC (.int 0)))
noncomputable def gK:List D->Rs D:=fun ds=>fQ (jo (aU ["script","k"] ds))
theorem Gp(F:gC K mg "_law_cell" qY) :iG P w K mg base "_law_cell" 1 2 gK :=
 gH (k:=0) (g:=jo) F Gi fun f cdv A outer s H E B hr hx =>
  aG (dI (Vd (sv 1) (pC T.rA (sv 0))) (aO (bM (bK (sv 0) (sv 1)))) cJ)
  (aO (bM au))
noncomputable def fO:aD->Ou :=
  bC (iB 2 (aQ iD (aQ dZ (aQ bH (aQ bH (aQ bH (aq 2) (aQ dZ (aQ dZ (fC (.int 15)) (aq 4)) (aq 4))) (aQ dZ (fC (.int 31)) (aq 1))) (fC (.int 11))) (fC (.int 48271))) (fC (.int 2147483647))))
  (bC (iB 2 (aQ iD (aQ dZ (aq 2) (aq 2)) (fC (.int 2147483629))))
  (iB 3 (aQ bH (aQ dZ (aq 3) (fC (.int 998244353))) (aQ uf (aQ iD (aQ dZ (aq 2) (fC (.int 69621))) (fC (.int 2147483587))) (fC (.int 7))))))
noncomputable def nD:aD->Ou :=
  bC (oY (fT (aQ gGe (aq 0) (aQ qu (fC (.int 10)) (fC (.int 18))))) (dh (aQ jQ (aq 0) (aQ qu (fC (.int 10)) (fC (.int 18))))) qw)
  (bC (iB 2 (aQ iD (aq 0) (fC (.int 2147483629))))
  (bC (iB 3 (fC (.int 0)))
  (bC (lG (jj (aM 4) fO (fC (.int 24))))
  (dh (aq 3)))))
noncomputable def fD:List D->Rs D:=fun ds=>fQ (nD (aU ["cell","salt","one","number","j"] ds))
theorem Gq(F:gC K mg "_law_deal" qZ) :iG P w K mg base "_law_deal" 1 2 fD :=
 gH (k:=0) (g:=nD) F fM fun f cdv A outer s H E B hr hx =>
  aG (dI (agD (sv 0) (mz au au)) (aO (bM (iz (sv 0) (mz au au)))) cJ)
  (aG (dB 2 fM.nd (jT (sv 0) au))
  (aG (dB 3 fM.nd au)
  (aG (jd (jw dq rfl T.fJ au (rg 4 fM.nd) (aG (dB 2 fM.nd (jT (jc (bV (bV (bV (sv 2) (jc (jc au (sv 4)) (sv 4))) (jc au (sv 1))) au) au) au))
  (aG (dB 2 fM.nd (jT (jc (sv 2) (sv 2)) au))
  (aO (dB 3 fM.nd (bV (jc (sv 3) au) (wB (jT (jc (sv 2) au) au) au))))))))
  (aO (bM (sv 3))))))
noncomputable def pW:aD->Ou :=
  dh (aQ Bp (aQ Zg (aq 1) (aQ cN (aq 0) (fC (.int 0)))) (aQ cN (aq 0) (fC (.int 1))))
noncomputable def gM:List D->Rs D:=fun ds=>fQ (pW (aU ["shape","cell"] ds))
theorem JG(F:gC K mg "_law_has" uG) :iG P w K mg base "_law_has" 1 2 gM :=
 gH (k:=0) (g:=pW) F Jz fun f cdv A outer s H E B hr hx =>
  aO (bM (abT (cg hr) (ach (cg hr) (sv 1) (bK (sv 0) au)) (bK (sv 0) au)))
noncomputable def pX:aD->Ou :=
  dh (aQ oE (aQ cN (fA (aj (aq 0) (aj (aq 1) aK)) (bf 2 gJ)) (fC (.int 0))) (fC (.str "loose")))
noncomputable def mU:List D->Rs D:=fun ds=>fQ (pX (aU ["cell","there"] ds))
theorem JH(F:gC K mg "loose_by" uH) (jY:iG P w K mg base "paper_by" 4 2 gJ):iG P w K mg base "loose_by" 5 2 mU :=
 gH (k:=4) (g:=pX) F JB fun f cdv A outer s H E B hr hx =>
  aO (bM (Hy (cg hr) (bK (bw jY hr hx (ak (sv 0) (ak (sv 1) aH))) au) iZ))
noncomputable def pY:aD->Ou :=
  bC (oY (fT (fA (aj (aq 0) (aj (aq 1) aK)) (bf 2 vP))) (QX "NoCell" (aj (fC (.str "the cell is there already")) aK)) qw)
  (dh (fA (aj (aq 1) (aj (fA (aj (aq 0) (aj (aq 1) aK)) (bf 2 cR)) aK)) (bf 2 mU)))
noncomputable def mV:List D->Rs D:=fun ds=>fQ (pY (aU ["shape","cell"] ds))
theorem JK(F:gC K mg "may_come" uI) (vR:iG P w K mg base "has" 1 2 vP) (uK:iG P w K mg base "loose_by" 5 2 mU) (dD:iG P w K mg base "neighbours_in" 2 2 cR):iG P w K mg base "may_come" 6 2 mV :=
 gH (k:=5) (g:=pY) F JC fun f cdv A outer s H E B hr hx =>
  aG (dI (jR (bw vR hr hx (ak (sv 0) (ak (sv 1) aH)))) (aO (yV jk rfl rfl rfl T.Jx T.oU T.vL nc (by decide) nc (ak iZ aH) (by decide))) cJ)
  (aO (bM (bw uK hr hx (ak (sv 1) (ak (bw dD hr hx (ak (sv 0) (ak (sv 1) aH))) aH)))))
noncomputable def jH:aD->Ou :=
  oY (sW (fT (aQ Bp (fA (aj (aq 3) (aj (aq 4) aK)) cU) (aq 1))) (fT (fA (aj (aq 0) (aj (fA (aj (aq 3) (aj (aq 4) aK)) cU) aK)) (bf 2 gM)))) (wL 2 (fA (aj (aq 3) (aj (aq 4) aK)) cU)) qw
noncomputable def jJ:aD->Ou :=
  qI (aM 4) jH (aj (aQ jQ (aQ cN (aq 1) (fC (.int 1))) (fC (.int 1))) (aj (aQ bH (aQ cN (aq 1) (fC (.int 1))) (fC (.int 2))) aK))
noncomputable def kZ:aD->Ou :=
  bC (Bw 2 aK)
  (bC (lG (qI (aM 3) jJ (aj (aQ jQ (aQ cN (aq 1) (fC (.int 0))) (fC (.int 1))) (aj (aQ bH (aQ cN (aq 1) (fC (.int 0))) (fC (.int 2))) aK))))
  (FJ 2 (dh (aq 2))))
noncomputable def fX:List D->Rs D:=fun ds=>fQ (kZ (aU ["shape","cell","found","row","column"] ds))
theorem Ao(F:gC K mg "_law_around" nU) (kh:iG P w K mg base "_law_has" 1 2 gM):iG P w K mg base "_law_around" 2 2 fX :=
 gH (k:=1) (g:=kZ) F jD fun f cdv A outer s H E B hr hx =>
  aG (wM 2 jD.nd aH)
  (aG (jd (yS dq rfl T.fJ (iz (bK (sv 1) au) au) (bV (bK (sv 1) au) au) (rg 3 jD.nd) (aO (yS dq rfl T.fJ (iz (bK (sv 1) au) au) (bV (bK (sv 1) au) au) (rg 4 jD.nd) (aO (dI (Eh (wA (Hz (cg hr) (bU (ak (sv 3) (ak (sv 4) aH))) (sv 1)) (rW (jR (bw kh hr cV (ak (sv 0) (ak (bU (ak (sv 3) (ak (sv 4) aH))) aH))))))) (aO (zN 2 (bU (ak (sv 3) (ak (sv 4) aH))))) cJ))))))
  (zO 2 (aO (bM (sv 2)))))
noncomputable def mW:aD->Ou :=
  ql 2 (fC (.bl true)) (aq 3)
noncomputable def jK:aD->Ou :=
  bC (iB 9 (xJ 5 (fA (aj (aQ bH (aQ cN (aQ cN (aq 5) (aq 6)) (fC (.int 0))) (aq 7)) (aj (aQ bH (aQ cN (aQ cN (aq 5) (aq 6)) (fC (.int 1))) (aq 8)) aK)) cU)))
  (oY (sW (fT (jP 2 (aq 9))) (tY (sW (fT (aq 1)) (fT (aQ Bp (aQ dZ (aq 7) (aq 8)) (fC (.int 0))))))) (bC (zU 2 (aq 9))
  (wL 5 (aq 9))) qw)
noncomputable def jL:aD->Ou :=
  Cw (aM 8) jK (fA (aj (yW (fC (.int 1))) (aj (fC (.int 0)) (aj (fC (.int 1)) aK))) cU)
noncomputable def jM:aD->Ou :=
  bC (Cw (aM 7) jL (fA (aj (yW (fC (.int 1))) (aj (fC (.int 0)) (aj (fC (.int 1)) aK))) cU))
  (iB 6 (aQ bH (aq 6) (fC (.int 1))))
noncomputable def eU:aD->Ou :=
  oY (fT (jP 2 (aq 3))) (bC (Bw 5 (aj (aq 3) aK))
  (bC (zU 2 (aq 3))
  (bC (iB 6 (fC (.int 0)))
  (bC (Mw 1000 (lJ 5 (fT (aQ gLt (aq 6) (fA (aj (aq 5) aK) mC)))) jM)
  (wL 4 (xJ 5 (fA (aj (fA (aj (aq 5) aK) nP) aK) nG))))))) qw
noncomputable def lg:aD->Ou :=
  bC (Rr 2)
  (bC (lG (tM (aM 3) mW (aq 0)))
  (bC (Bw 4 aK)
  (bC (lG (tM (aM 3) eU (fA (aj (aq 0) aK) nP)))
  (FJ 4 (dh (aq 4))))))
noncomputable def fY:List D->Rs D:=fun ds=>fQ (lg (aU ["cells","sides_v","left","cell","found","part","at","row","column","near"] ds))
theorem Aq(F:gC K mg "_law_fallen" nW) :iG P w K mg base "_law_fallen" 1 2 fY :=
 gH (k:=0) (g:=lg) F bY fun f cdv A outer s H E B hr hx =>
  aG (FT 2 bY.nd)
  (aG (jd (pD dq rfl (sv 0) (rg 3 bY.nd) (aO (sI 2 (cg hr) ju (sv 3)))))
  (aG (wM 4 bY.nd aH)
  (aG (jd (pD dq rfl (zQ T.mO (sv 0)) (rg 3 bY.nd) (aO (dI (FW 2 (cg hr) (sv 3)) (aG (wM 5 bY.nd (ak (sv 3) aH))
  (aG (Ga 2 (cg hr) (sv 3))
  (aG (dB 6 bY.nd au)
  (aG (Jt 1000 dq (yq 5 (Vd (sv 6) (pC T.rA (sv 5)))) (aG (Ek dq rfl (bU (ak (Er au) (ak au (ak au aH)))) (rg 7 bY.nd) (aO (Ek dq rfl (bU (ak (Er au) (ak au (ak au aH)))) (rg 8 bY.nd) (aG (dB 9 bY.nd (Gb 5 (bU (ak (bV (bK (bK (sv 5) (sv 6)) au) (sv 7)) (ak (bV (bK (bK (sv 5) (sv 6)) au) (sv 8)) aH)))))
  (aO (dI (Eh (wA (FW 2 (cg hr) (sv 9)) (rW (uc (Eh (wA (jR (sv 1)) (rW (Hz (cg hr) (jc (sv 7) (sv 8)) au)))))))) (aG (Ga 2 (cg hr) (sv 9))
  (aO (zN 5 (sv 9)))) cJ))))))
  (aO (dB 6 bY.nd (bV (sv 6) au)))))
  (aO (zN 4 (Gb 5 (vq T.yu (zQ T.mO (sv 5)))))))))) cJ))))
  (zO 4 (aO (bM (sv 4)))))))
noncomputable def kj:aD->Rs D :=
  aq 0
noncomputable def gW:aD->Rs Bool :=
  RV (fT (aQ oE (aQ cN (aq 0) (fC (.int 0))) (aQ cN (aq 1) (fC (.int 0))))) (fT (aQ oE (aQ cN (aq 0) (fC (.int 1))) (aQ cN (aq 1) (fC (.int 1)))))
noncomputable def cT:aD->Ou :=
  bC (iB 2 (fA (aj (aq 0) (aj (aq 1) aK)) (bf 2 fX)))
  (bC (oY (fT (aQ oE (aq 2) (fA aK uV))) (dh (fC (.str "alone"))) qw)
  (bC (oY (fT (aQ oE (fA (aj (dW (aM 0) gW kj 1 [1] (fL (aq 2) Zf)) aK) mC) (fC (.int 4)))) (dh (fC (.str "inner"))) qw)
  (bC (oY (fT (aQ QW (fA (aj (fA (aj (aq 2) (aj (fC (.bl false)) aK)) (bf 2 fY)) aK) mC) (fC (.int 1)))) (dh (fC (.str "bridge"))) qw)
  (dh (fC (.str "loose"))))))
noncomputable def cB:List D->Rs D:=fun ds=>fQ (cT (aU ["shape","cell","near"] ds))
theorem wX(F:gC K mg "_law_word_due" iU) (ou:iG P w K mg base "_law_around" 2 2 fX) (oA:iG P w K mg base "_law_fallen" 1 2 fY):iG P w K mg base "_law_word_due" 3 2 cB :=
 gH (k:=2) (g:=cT) F oV fun f cdv A outer s H E B hr hx =>
  aG (dB 2 oV.nd (bw ou hr hx (ak (sv 0) (ak (sv 1) aH))))
  (aG (dI (qd (cg hr) (sv 2) (ud aH)) (aO (bM iZ)) cJ)
  (aG (dI (qd (cg hr) (pC T.rA (wG (pG (aF iU) ["shape","cell","near"] (N:=["one","cell"]) (nt:=1) (caps:=[1]) (by decide+kernel)) rfl (by decide+kernel) (yc (sv 2)) jU (fun s₀ H₀ C ex pins B1=>rg 0 (show lI (["one","cell"]:List Str) by decide)) (fun s₀ H₀ C ex pins B1=>Eh (Ub (qd (cg hr) (bK (sv 0) au) (bK (sv 1) au)) (Ku (qd (cg hr) (bK (sv 0) au) (bK (sv 1) au))))) (fun s₀ H₀ C ex pins B1=>sv 0))) au) (aO (bM iZ)) cJ)
  (aG (dI (Ot (pC T.rA (bw oA hr hx (ak (sv 2) (ak ju aH)))) au) (aO (bM iZ)) cJ)
  (aO (bM iZ)))))
noncomputable def lR:aD->Ou :=
  bC (oY (fT (fA (aj (aq 0) (aj (aq 1) aK)) (bf 2 gM))) (iB 2 (fA (aj (aq 0) (aj (aq 1) aK)) (bf 2 jh))) (iB 2 (fA (aj (aq 0) (aj (aq 1) aK)) (bf 2 mV))))
  (dh (xg (fB (aq 2) (gIs .bool)) (aQ oE (aq 2) (aQ oE (fA (aj (aq 0) (aj (aq 1) aK)) (bf 2 cB)) (fC (.str "loose"))))))
noncomputable def cW:List D->Rs D:=fun ds=>fQ (lR (aU ["shape","there","told"] ds))
theorem BP(F:gC K mg "_law_asked" pO) (kh:iG P w K mg base "_law_has" 1 2 gM) (jZ:iG P w K mg base "is_loose" 6 2 jh) (uL:iG P w K mg base "may_come" 6 2 mV) (dF:iG P w K mg base "_law_word_due" 3 2 cB):iG P w K mg base "_law_asked" 7 2 cW :=
 gH (k:=6) (g:=lR) F nZ fun f cdv A outer s H E B hr hx =>
  aG (dI (jR (bw kh hr hx (ak (sv 0) (ak (sv 1) aH)))) (aO (dB 2 nZ.nd (bw jZ hr hx (ak (sv 0) (ak (sv 1) aH))))) (aO (dB 2 nZ.nd (bw uL hr hx (ak (sv 0) (ak (sv 1) aH))))))
  (aO (bM (adD (abU (t:=.bool) T.vK T.aeW (sv 2) PyProof.Rows.Boot.«bool») (adC (Hy (cg hr) (sv 2) (Hy (cg hr) (bw dF hr hx (ak (sv 0) (ak (sv 1) aH))) iZ))))))
noncomputable def lU:aD->Ou :=
  ql 2 (fC (.bl true)) (fA (aj (aQ jQ (aQ cN (aq 1) (fC (.int 0))) (aq 3)) (aj (aQ jQ (aQ bH (aQ cN (aq 1) (fC (.int 1))) (aq 4)) (aQ dZ (fC (.int 19)) (fA (aj (aQ QW (aQ cN (aq 1) (fC (.int 1))) (fC (.int 0))) aK) Jb))) aK)) (bf 2 bZ))
noncomputable def lV:aD->Ou :=
  jj (aM 4) lU (fC (.int 20))
noncomputable def lW:aD->Ou :=
  bC (lM (fA (aj (aq 0) (aj (fC (.int 400)) aK)) Cv) (mD 2 (cF (aM 0) (cF (aM 7) mY))))
  (bC (lM (fA (aj (aq 0) (aj (fC (.int 9)) aK)) Cv) (mD 2 (cF (aM 0) (cF (aM 8) mY))))
  (bC (iB 9 (aQ cN (aQ cN (aq 5) (fC (.int 0))) (aQ iD (aq 7) (fA (aj (aQ cN (aq 5) (fC (.int 0))) aK) mC))))
  (bC (iB 10 (fA (aj (aQ jQ (aQ bH (aQ cN (aq 9) (fC (.int 0))) (aQ uf (aq 8) (fC (.int 3)))) (fC (.int 1))) (aj (aQ jQ (aQ bH (aQ cN (aq 9) (fC (.int 1))) (aQ iD (aq 8) (fC (.int 3)))) (fC (.int 1))) aK)) (bf 2 bZ)))
  (oY (sW (fT (uz 2 (aq 10))) (tY (fT (fA (aj (aq 5) (aj (aq 10) aK)) (bf 2 cW))))) (dh (fC (.bl false))) qw))))
noncomputable def nF:aD->Ou :=
  bC (lM (fA (aj (aq 0) aK) (bf 1 fj)) (mD 2 (cF (aM 1) (cF (aM 0) mY))))
  (bC (Rr 2)
  (bC (lG (jj (aM 3) lV (fC (.int 20))))
  (bC (iB 5 (fA (aj (fA (aj (qR 2) aK) nG) (aj (fC (.bl false)) aK)) cU))
  (bC (lG (jj (aM 6) lW (fC (.int 3))))
  (dh (fA (aj (aq 5) (aj (fA (aj (aQ jQ (aQ cN (aq 1) (fC (.int 0))) (fC (.int 20))) (aj (aQ cN (aq 1) (fC (.int 1))) aK)) (bf 2 bZ)) aK)) (bf 2 cW)))))))
noncomputable def lE:List D->Rs D:=fun ds=>fQ (nF (aU ["number","base","cells","row","column","shape","k","at","by","spot","there"] ds))
theorem Gr(F:gC K mg "_law_full" rm) (jm:iG P w K mg base "_law_base" 1 1 fj) (cu:iG P w K mg base "_law_kept" 1 2 bZ) (dO:iG P w K mg base "_law_asked" 7 2 cW):iG P w K mg base "_law_full" 8 1 lE :=
 gH (k:=7) (g:=nF) F bR fun f cdv A outer s H E B hr hx =>
  aG (gB (bw jm hr hx (ak (sv 0) aH)) (gA rfl (bB (rg 1 bR.nd) (bB (rg 0 bR.nd) dH))))
  (aG (FT 2 bR.nd)
  (aG (jd (jw dq rfl T.fJ au (rg 3 bR.nd) (aO (jw dq rfl T.fJ au (rg 4 bR.nd) (aO (sI 2 (cg hr) ju (bw cu hr cV (ak (iz (bK (sv 1) au) (sv 3)) (ak (iz (bV (bK (sv 1) au) (sv 4)) (jc au (aew T.ahm (agC (bK (sv 1) au) au)))) aH)))))))))
  (aG (dB 5 bR.nd (bU (ak (vq T.yu (zT 2 rfl T.mO)) (ak ju aH))))
  (aG (jd (jw dq rfl T.fJ au (rg 6 bR.nd) (aG (gB (cP T.dM (sv 0) au) (gA rfl (bB (rg 0 bR.nd) (bB (rg 7 bR.nd) dH))))
  (aG (gB (cP T.dM (sv 0) au) (gA rfl (bB (rg 0 bR.nd) (bB (rg 8 bR.nd) dH))))
  (aG (dB 9 bR.nd (bK (bK (sv 5) au) (jT (sv 7) (pC T.rA (bK (sv 5) au)))))
  (aG (dB 10 bR.nd (bw cu hr cV (ak (iz (bV (bK (sv 9) au) (wB (sv 8) au)) au) (ak (iz (bV (bK (sv 9) au) (jT (sv 8) au)) au) aH))))
  (aO (dI (Eh (wA (aaT 2 (cg hr) (sv 10)) (rW (uc (jR (bw dO hr cV (ak (sv 5) (ak (sv 10) aH)))))))) (aO (bM ju)) cJ))))))))
  (aO (bM (bw dO hr hx (ak (sv 5) (ak (bw cu hr hx (ak (iz (bK (sv 1) au) au) (ak (bK (sv 1) au) aH))) aH)))))))))
noncomputable def yx:aD->Ou :=
  oY (tY (fT (fA (aj (aq 4) (aj (fA (aj (aQ cN (aq 6) (fC (.int 0))) (aj (aQ cN (aq 6) (fC (.int 1))) aK)) (bf 2 bZ)) aK)) (bf 2 cW)))) (dh (fC (.bl false))) qw
noncomputable def yC:aD->Ou :=
  tM (aM 6) yx (fA (aj (aq 5) (aj (fA (aj (aQ cN (aq 5) (fC (.int 0))) (aj (aQ jQ (aQ cN (aq 5) (fC (.int 1))) (fC (.int 1))) aK)) cU) (aj (fA (aj (aQ bH (aQ cN (aq 5) (fC (.int 0))) (fC (.int 1))) (aj (aQ bH (aQ cN (aq 5) (fC (.int 1))) (fC (.int 1))) aK)) cU) aK))) uV)
noncomputable def Qj:aD->Rs D :=
  aq 0
noncomputable def Gs:aD->Rs Bool :=
  fT (aQ oE (fA (aj (fA (aj (aq 1) (aj (fC (.bl false)) aK)) cU) (aj (aq 0) aK)) (bf 2 cB)) (fC (.str "loose")))
noncomputable def yD:aD->Ou :=
  bC (lM (fA (aj (fA (aj (aq 1) (aj (fC (.int 1)) aK)) (bf 2 fD)) aK) (bf 1 jE)) (mD 2 (cF (aM 2) (cF (aM 3) mY))))
  (bC (iB 4 (fA (aj (aq 2) (aj (aQ oE (aQ iD (aq 3) (fC (.int 3))) (fC (.int 1))) aK)) cU))
  (bC (Cw (aM 5) yC (aQ Dg (aq 2) (fA (aj (fA (aj (fC (.int 0)) (aj (fC (.int 0)) aK)) cU) aK) cU)))
  (bC (iB 7 (dW (aM 0) Gs Qj 1 [2] (fL (aq 2) asT)))
  (bC (Ji 8 1 dU (aj (fA (aj (aq 2) (aj (fC (.bl false)) aK)) cU) aK))
  (bC (oY (RV (tY (lJ 8 (fT (fB (aq 8) (gIs .list))))) (lJ 8 (fT (aQ Bp (aq 8) (aq 7))))) (dh (fC (.bl false))) qw)
  (bC (wL 8 (fA (aj (fC (.int 0)) (aj (fC (.int 0)) aK)) cU))
  (bC (oY (fT (aQ Bp (fA (aj (fA (aj (aq 2) (aj (fC (.bl false)) aK)) cU) aK) (bf 1 (XC dU))) (aq 7))) (dh (fC (.bl false))) qw)
  (bC (oY (sW (fT (aQ oE (aQ iD (aq 3) (fC (.int 8))) (fC (.int 3)))) (tY (fT (fA (aj (aQ uf (aq 3) (fC (.int 8))) aK) (bf 1 lE))))) (dh (fC (.bl false))) qw)
  (oY (sW (fT (aQ oE (aQ iD (aq 3) (fC (.int 8))) (fC (.int 5)))) (tY (fT (fA (aj (fA (aj (fA aK cU) (aj (fC (.bl true)) aK)) cU) (aj (fA (aj (aQ iD (aQ uf (aq 3) (fC (.int 8))) (fC (.int 9))) (aj (aQ iD (aQ uf (aq 3) (fC (.int 72))) (fC (.int 9))) aK)) (bf 2 bZ)) aK)) (bf 2 cW))))) (dh (fC (.bl false))) qw)))))))))
noncomputable def Qk:aD->Ou :=
  bC (lG (tM (aM 1) yD (aQ bH (fA (aj (fA (aj (aq 0) (aj (fC (.int 0)) aK)) (bf 2 gK)) aK) uV) (fSl (aq 0) (fP (fC (.int 1))) (fP (fC (.int 11)))))))
  (dh (fC (.bl true)))
noncomputable def Ql:List D->Rs D:=fun ds=>fQ (Qk (aU ["script","cell","cells","number","shape","spot","there","due","told"] ds))
theorem ahp{f:ae}(pZ:iG P w K mg base "_law_board" 2 1 jE) (rK:iG P w K mg base "_law_deal" 1 2 fD) (dO:iG P w K mg base "_law_asked" 7 2 cW) (cu:iG P w K mg base "_law_kept" 1 2 bZ) (dF:iG P w K mg base "_law_word_due" 3 2 cB) (lu:Okr P w K mg base "loose_cells" 7 1 dU) (rM:iG P w K mg base "_law_full" 8 1 lE) (rN:iG P w K mg base "_law_cell" 1 2 gK) {cdv:aa}{A:ba}{outer:List Env}{s:af}{H:Hp}{E:XK}{B:Bs}(hr:jt 8 (A.deeper (kX "law" (aF oM) s.heap.objs.size f cdv)))
  (hx:qK (qt (wC P w K) P w K mg base ["script","cell","cells","number","shape","spot","there","due","told"] "law" (aF oM) f cdv A outer s H E) (fun c n _ H'=>E (Bo c n) none H')) :
  xq (qt (wC P w K) P w K mg base ["script","cell","cells","number","shape","spot","there","due","told"] "law" (aF oM) f cdv A outer s H E) B (fun c n _ H'=>E (Bo c n) none H') (cO oM) Qk :=
  aG (jd (pD dq rfl (bV (ud (ak (bw rN hr cV (ak (sv 0) (ak au aH))) aH)) (Ui (sv 0) (Oh au) (Oh au))) (rg 1 pP.nd) (aG (gB (bw pZ hr cV (ak (bw rK hr cV (ak (sv 1) (ak au aH))) aH)) (gA rfl (bB (rg 2 pP.nd) (bB (rg 3 pP.nd) dH))))
  (aG (dB 4 pP.nd (bU (ak (sv 2) (ak (Hy (cg hr) (jT (sv 3) au) au) aH))))
  (aG (Ek dq rfl (aaN (sv 2) (bU (ak (bU (ak au (ak au aH))) aH))) (rg 5 pP.nd) (aO (pD dq rfl (ud (ak (sv 5) (ak (bU (ak (bK (sv 5) au) (ak (iz (bK (sv 5) au) au) aH))) (ak (bU (ak (bV (bK (sv 5) au) au) (ak (bV (bK (sv 5) au) au) aH))) aH)))) (rg 6 pP.nd) (aO (dI (uc (jR (bw dO hr cV (ak (sv 4) (ak (bw cu hr cV (ak (bK (sv 6) au) (ak (bK (sv 6) au) aH))) aH))))) (aO (bM ju)) cJ)))))
  (aG (Df 7 pP.nd (pG (aF oM) ["script","cell","cells","number","shape","spot","there","due","told"] (N:=["spot","cells"]) (nt:=1) (caps:=[2]) (by decide+kernel)) rfl (by decide+kernel) (Vf (sv 2)) jU (fun s₀ H₀ C ex pins B1=>rg 0 (show lI (["spot","cells"]:List Str) by decide)) (fun s₀ H₀ C ex pins B1=>qd (cg hr) (bw dF hr cV (ak (bU (ak (sv 1) (ak ju aH))) (ak (sv 0) aH))) iZ) (fun s₀ H₀ C ex pins B1=>sv 0))
  (aG (aaZ 8 lu.f hr pP.nd (ak (bU (ak (sv 2) (ak ju aH))) aH))
  (aG (dI (Eh (Ub (uc (yq 8 (jR (abU (t:=.list) T.vK T.aeX (sv 8) PyProof.Rows.Boot.«list»)))) (Ku (yq 8 (Hz (cg hr) (sv 8) (sv 7)))))) (aO (bM ju)) cJ)
  (aG (zN 8 (bU (ak au (ak au aH))))
  (aG (dI (Hz (cg hr) (bw lu.data hr cV (ak (bU (ak (sv 2) (ak ju aH))) aH)) (sv 7)) (aO (bM ju)) cJ)
  (aG (dI (Eh (wA (qd (cg hr) (jT (sv 3) au) au) (rW (uc (jR (bw rM hr cV (ak (wB (sv 3) au) aH))))))) (aO (bM ju)) cJ)
  (aO (dI (Eh (wA (qd (cg hr) (jT (sv 3) au) au) (rW (uc (jR (bw dO hr cV (ak (bU (ak (bU aH) (ak ju aH))) (ak (bw cu hr cV (ak (jT (wB (sv 3) au) au) (ak (jT (wB (sv 3) au) au) aH))) aH)))))))) (aO (bM ju)) cJ)))))))))))))
  (aO (bM ju))
end
section
variable{l:l_}{w:az}{K:c_}{h:aE}{mg:Str->Option aa}{fa:ae}{fW:ae}{iH:ae}
 {XM:ae}{afa XQ:Option ae}{afb:Array (Option aa)}{afc XR XS Yb Mz Yc:aa}
theorem all_mk(X:K.In h) (G:h.Ns cw mg) (hfa:mg "law"=some (.ref fa))
  (oN:dQ K cw "Endless"=some (some (.ref fW)))
  (wR:excIn K fW [.type "ValueError",.type "Exception",.type "BaseException",.type "object"] "ValueError.__new__"=true)
  (oU:dQ K cw "NoCell"=some (some (.ref iH)))
  (vL:excIn K iH [.type "ValueError",.type "Exception",.type "BaseException",.type "object"] "ValueError.__new__"=true)
  (JL:Dn K "_law_base" qU)
  (JM:Dn K "_law_kept" qW)
  (Gu:Dn K "_law_board" pL)
  (Av:Dn K "check_finite" mL)
  (Yd:Dn K "marked" Ab)
  (vU:Dn K "neighbours" jC)
  (BR:Dn K "taken_chain" nT)
  (Ye:Dn K "chains" Ac)
  (abl:Dn K "sides" Gf)
  (Yg:Dn K "rising" Ae)
  (MF:Dn K "paper_by" pN)
  (ahq:Dn K "has" XF)
  (xV:Dn K "neighbours_in" iT)
  (JN:Dn K "why_loose" qX)
  (MJ:Dn K "is_loose" uF)
  (BW:Dn K "loose_cells" kI)
  (JQ:Dn K "_law_cell" qY)
  (JR:Dn K "_law_deal" qZ)
  (MK:Dn K "_law_has" uG)
  (MN:Dn K "loose_by" uH)
  (MP:Dn K "may_come" uI)
  (BX:Dn K "_law_around" nU)
  (BZ:Dn K "_law_fallen" nW)
  (xW:Dn K "_law_word_due" iU)
  (Gv:Dn K "_law_asked" pO)
  (JT:Dn K "_law_full" rm)
  (ahr:dQ K cw "law"=some (some (.ref XM)))
  (ahs:K.lookup XM=some ⟨afc,afa,.func (fnOf "law" "law" (gO oM) (cO oM) (aF oM) .none XR XS Yb XQ Mz Yc),afb⟩)
  (aht:codeIn K Mz "law"=true)
  (ahu:keepIn K (.ref XM)=true)
  (afd:dQ K cw "bool"=some none)
  (Yh:dQ K cw "divmod"=some none)
  (ahv:dQ K cw "int"=some none)
  (Gw:dQ K cw "isinstance"=some none)
  (ahw:dQ K cw "len"=some none)
  (afe:dQ K cw "list"=some none)
  (ahx:dQ K cw "max"=some none)
  (ahy:dQ K cw "min"=some none)
  (abm:dQ K cw "range"=some none)
  (ahz:dQ K cw "set"=some none)
  (Yi:dQ K cw "sorted"=some none)
  (abn:dQ K cw "tuple"=some none) :
  ∃fd:df,(∀(s:af) (v:aa),iX s fd ⟨[v],[]⟩ [("script",v)])/\∀base:aE,K.In base->base.Ns cw mg->qD l.prog w K mg base (wC l.prog w K) 9 fa fd ["script"] (spV K 1 Ql):=by
 have e:=hfa.symm.trans (mg_of X G ahr);cases e;have T:Txt K mg fW iH:=⟨gT X G afd,
  gT X G Yh,
  gT X G ahv,
  gT X G Gw,
  gT X G ahw,
  gT X G afe,
  gT X G ahx,
  gT X G ahy,
  gT X G abm,
  gT X G ahz,
  gT X G Yi,
  gT X G abn,
  mg_of X G oN,
  oN,
  wR,
  (fun c C hc hC=>(by simp only[Dq,j_,beq_iff_eq,or_assoc]at hc;exact(fun z=>by subst z;rw[oN]at hC;cases hC;exact HB _) hc)),
  mg_of X G oU,
  oU,
  vL,
  (fun c C hc hC=>(by simp only[Jw,j_,beq_iff_eq,or_assoc]at hc;exact(fun z=>by subst z;rw[oU]at hC;cases hC;exact HB _) hc)),
  vU.fnv X G⟩
 have ahA:=Tz (st:=oM) ahs aht ahu;refine⟨fnOf "law" "law" (gO oM) (cO oM) (aF oM) .none XR XS Yb XQ Mz Yc,fun s v=>.of_eq rfl,fun base _ _=>?_⟩;have jm:=Gj (P:=l.prog) (w:=w) (base:=base) T (JL.ent X G);have cu:=Gk (P:=l.prog) (w:=w) (base:=base) T (JM.ent X G);have pZ:=BK (P:=l.prog) (w:=w) (base:=base) T (Gu.ent X G) jm cu;have mR:=xU (P:=l.prog) (w:=w) (base:=base) T (Av.ent X G);have Aj:=RJ (P:=l.prog) (w:=w) (base:=base) T (Yd.ent X G);have gU:=BL (P:=l.prog) (w:=w) (base:=base) T (vU.ent X G);have fZ:=pQ (P:=l.prog) (w:=w) (base:=base) T gU;have oh:=Ai (P:=l.prog) (w:=w) (base:=base) T (BR.ent X G) fZ;have Ak:=RK (P:=l.prog) (w:=w) (base:=base) T (Ye.ent X G) Aj oh;have Gm:=XJ (P:=l.prog) (w:=w) (base:=base) T (abl.ent X G);have Al:=RL (P:=l.prog) (w:=w) (base:=base) T (Yg.ent X G);have jY:=JD (P:=l.prog) (w:=w) (base:=base) T (MF.ent X G) Gm Ak Al;have vR:=aeZ (P:=l.prog) (w:=w) (base:=base) T (ahq.ent X G);have dD:=wW (P:=l.prog) (w:=w) (base:=base) T (xV.ent X G) gU vR;have rJ:=Gn (P:=l.prog) (w:=w) (base:=base) T (JN.ent X G) vR jY dD;have jZ:=JF (P:=l.prog) (w:=w) (base:=base) T (MJ.ent X G) rJ;have lu:=Am (P:=l.prog) (w:=w) (base:=base) T (BW.ent X G) mR jZ;have rN:=Gp (P:=l.prog) (w:=w) (base:=base) T (JQ.ent X G);have rK:=Gq (P:=l.prog) (w:=w) (base:=base) T (JR.ent X G);have kh:=JG (P:=l.prog) (w:=w) (base:=base) T (MK.ent X G);have uK:=JH (P:=l.prog) (w:=w) (base:=base) T (MN.ent X G) jY;have uL:=JK (P:=l.prog) (w:=w) (base:=base) T (MP.ent X G) vR uK dD;have ou:=Ao (P:=l.prog) (w:=w) (base:=base) T (BX.ent X G) kh;have oA:=Aq (P:=l.prog) (w:=w) (base:=base) T (BZ.ent X G);have dF:=wX (P:=l.prog) (w:=w) (base:=base) T (xW.ent X G) ou oA;have dO:=BP (P:=l.prog) (w:=w) (base:=base) T (Gv.ent X G) kh jZ uL dF;have rM:=Gr (P:=l.prog) (w:=w) (base:=base) T (JT.ent X G) jm cu dO;exact agx ahA pP fun cdv A outer s H E B hr=>ahp T pZ rK dO cu dF lu rM rN hr (qL jk rfl)
end
theorem Nb{c s o n J A1 A2 A3 A4 q A5 r A6 A7 u A8:Int}(e0:dZ (.int 15) (.int J)=.ok (.int A1))(e1:dZ (.int A1) (.int J)=.ok (.int A2))(e2:dZ (.int 31) (.int s)=.ok (.int A3))(e3:dZ (.int (o + A2 + A3 + 11)) (.int 48271)=.ok (.int A4))(e4:iD (.int A4) (.int 2147483647)=.ok (.int q))
  (e5:dZ (.int q) (.int q)=.ok (.int A5)) (e6:iD (.int A5) (.int 2147483629)=.ok (.int r)) (e7:dZ (.int n) (.int 998244353)=.ok (.int A6)) (e8:dZ (.int r) (.int 69621)=.ok (.int A7)) (e9:iD (.int A7) (.int 2147483587)=.ok (.int u)) (e10:uf (.int u) (.int 7)=.ok (.int A8)) :
  fO [.fz (.int c),.fz (.int s),.fz (.int o),.fz (.int n),.fz (.int J)]=.nx [.fz (.int c),.fz (.int s),.fz (.int r),.fz (.int (A6 + A8)),.fz (.int J)]:=by
 unfold fO;simp (config:={ decide:=false }) only[bC,Xc,Xd,Xe,Jo,aeG,Jp,Xf,aeH,Xg,Xh,Xi,Xj,Xk,Ma,iB,dh,KD,oY,lM,adY,lG,qw,Bw,wL,FJ,QX,aQ,aq,fC,fA,fB,aj,aK,fT,tY,sW,RV,xg,adB,Uc,yW,fL,fSl,fP,adG,toB,toI,LQ,cC,jO,KJ,aea,Et,aeb,nR,Gd,Mf,Mi,Mj,Ml,Mq,Mr,Xn,Ms,aeI,aeJ,aeK,aeL,aeM,Xo,nq,Vj,Qa,Xm,vH,Jq,aM,mD,cF,mY,aU,bX,gu,ck,d4,fR,oI,ij,rV,rX,o3,rh,wo,wq,wt,w6,gS,r8,if_true,if_false,ite_true,ite_false,decide_true,decide_false,eB,lh,bz,reduceIte,reduceCtorEq,e0,e1,e2,e3,e4,e5,e6,e7,e8,e9,e10]
theorem JV{c s o n:Int}{j:Nat}(hs:0<=s/\s<=9)(hj:j < 24)(h1:0<=o)(h2:o < 2147483647) :
  ∃o' n':Int,fO [.fz (.int c),.fz (.int s),.fz (.int o),.fz (.int n),.fz (.int j)]=.nx [.fz (.int c),.fz (.int s),.fz (.int o'),.fz (.int n'),.fz (.int j)]/\0<=o'/\o' < 2147483647:=by
 have e0:dZ (.int 15) (.int j)=.ok (.int (15 * j)):=nQ (by omega);have e1:dZ (.int (15 * (j:Int))) (.int j)=.ok (.int (15 * j * j)):=nQ (by omega);have e2:dZ (.int 31) (.int s)=.ok (.int (31 * s)):=nQ (by omega);have e3:dZ (.int (o + 15 * j * j + 31 * s + 11)) (.int 48271)=.ok (.int ((o + 15 * j * j + 31 * s + 11) * 48271)):=nQ (by decide);have e4:=qe (m:=(o + 15 * j * j + 31 * s + 11) * 48271) (n:=2147483647) (by decide);have b1:0<=(o + 15 * (j:Int) * j + 31 * s + 11) * 48271 % 2147483647:=gf _ (by decide);have b2:(o + 15 * (j:Int) * j + 31 * s + 11) * 48271 % 2147483647 < 2147483647:=iF _ (by decide);generalize (o + 15 * (j:Int) * j + 31 * s + 11) * 48271 % 2147483647=q at e4 b1 b2;have e5:dZ (.int q) (.int q)=.ok (.int (q * q)):=nQ (by omega);have e6:=qe (m:=q * q) (n:=2147483629) (by decide);have c1:0<=q * q % 2147483629:=gf _ (by decide);have c2:q * q % 2147483629 < 2147483629:=iF _ (by decide);generalize q * q % 2147483629=r at e6 c1 c2;have e7:dZ (.int n) (.int 998244353)=.ok (.int (n * 998244353)):=nQ (by decide);have e8:dZ (.int r) (.int 69621)=.ok (.int (r * 69621)):=nQ (by decide);have e9:=qe (m:=r * 69621) (n:=2147483587) (by decide);generalize r * 69621 % 2147483587=u at e9;have e10:=HJ (m:=u) (n:=7) ⟨by decide,by decide⟩;exact⟨_,_,Nb e0 e1 e2 e3 e4 e5 e6 e7 e8 e9 e10,c1,by omega⟩
theorem JW(c:Int){s o:Int}(hs:0<=s/\s<=9)(b1:0<=o)(b2:o < 2147483647):∃(o' n:Int) (a:Sl),jj (aM 4) fO (fC (.int 24)) [.fz (.int c),.fz (.int s),.fz (.int o),.fz (.int 0),.no]=.nx [.fz (.int c),.fz (.int s),.fz (.int o'),.fz (.int n),a]:=by
 obtain⟨ρ',e1,o',n,a,rfl,_⟩:=HF (h:=aM 4) (g:=fO) (fun ρ=>∃(o n:Int) (a:Sl),ρ=[.fz (.int c),.fz (.int s),.fz (.int o),.fz (.int n),a]/\0<=o/\o < 2147483647)
  (ds:=(bS 24).map fun(i:Nat)=>.int i) (ρ:=[.fz (.int c),.fz (.int s),.fz (.int o),.fz (.int 0),.no]) ⟨_,_,_,rfl,b1,b2⟩ (by
   rintro d hd ρ ⟨o,n,a,rfl,h1,h2⟩;obtain⟨j,hj,rfl⟩:=dC.mp hd;obtain⟨o',n',e,h3,h4⟩:=JV (c:=c) (s:=s) (n:=n) (j:=j) hs (fq.mp hj) h1 h2;exact⟨_,_,rfl,e,_,_,_,rfl,h3,h4⟩)
 exact⟨o',n,a,mG (N:=24) bG (by decide) rfl e1⟩
theorem Yj(c s T:Int)(p1:qu (.int 10) (.int 18)=.ok (.int T))(h:decide (T<=c)=true):fD [.int c,.int s]=.ok (.int (c - T)):=by unfold fD nD;simp (config:={ decide:=false }) only[bC,Xc,Xd,Xe,Jo,aeG,Jp,Xf,aeH,Xg,Xh,Xi,Xj,Xk,Ma,iB,dh,KD,oY,lM,adY,lG,qw,Bw,wL,FJ,QX,aQ,aq,fC,fA,fB,aj,aK,fT,tY,sW,RV,xg,adB,Uc,yW,fL,fSl,fP,adG,toB,toI,LQ,cC,jO,KJ,aea,Et,aeb,nR,Gd,Mf,Mi,Mj,Ml,Mq,Mr,Xn,Ms,aeI,aeJ,aeK,aeL,aeM,Xo,nq,Vj,Qa,Xm,vH,Jq,aM,mD,cF,mY,aU,bX,gu,ck,d4,fR,oI,ij,rV,rX,o3,rh,wo,wq,wt,w6,gS,r8,if_true,if_false,ite_true,ite_false,decide_true,decide_false,eB,lh,bz,reduceIte,reduceCtorEq,p1,h]
theorem Yk(c s T o o' n:Int)(a:Sl)(p1:qu (.int 10) (.int 18)=.ok (.int T))(p2:iD (.int c) (.int 2147483629)=.ok (.int o))
  (f1:jj (aM 4) fO (fC (.int 24)) [.fz (.int c),.fz (.int s),.fz (.int o),.fz (.int 0),.no]=.nx [.fz (.int c),.fz (.int s),.fz (.int o'),.fz (.int n),a]) (h:decide (T<=c)=false):fD [.int c,.int s]=.ok (.int n):=by
 unfold fD nD;simp (config:={ decide:=false }) only[bC,Xc,Xd,Xe,Jo,aeG,Jp,Xf,aeH,Xg,Xh,Xi,Xj,Xk,Ma,iB,dh,KD,oY,lM,adY,lG,qw,Bw,wL,FJ,QX,aQ,aq,fC,fA,fB,aj,aK,fT,tY,sW,RV,xg,adB,Uc,yW,fL,fSl,fP,adG,toB,toI,LQ,cC,jO,KJ,aea,Et,aeb,nR,Gd,Mf,Mi,Mj,Ml,Mq,Mr,Xn,Ms,aeI,aeJ,aeK,aeL,aeM,Xo,nq,Vj,Qa,Xm,vH,Jq,aM,mD,cF,mY,aU,bX,gu,ck,d4,fR,oI,ij,rV,rX,o3,rh,wo,wq,wt,w6,gS,r8,if_true,if_false,ite_true,ite_false,decide_true,decide_false,eB,lh,bz,reduceIte,reduceCtorEq,p1,h,p2,f1]
theorem afg(c s:Int)(hs:0<=s/\s<=9):∃n:Int,fD [.int c,.int s]=.ok (.int n):=by
 have p1:qu (.int 10) (.int 18)=.ok (.int (10 ^ Int.toNat 18)):=abX ⟨by decide,by decide,by decide⟩;generalize (10:Int) ^ Int.toNat 18=T at p1;have p2:iD (.int c) (.int 2147483629)=.ok (.int (c % 2147483629)):=qe (by decide);have b1:0<=c % 2147483629:=gf _ (by decide);have b2:c % 2147483629 < 2147483629:=iF _ (by decide);obtain⟨o',n,a,f1⟩:=JW c hs (o:=c % 2147483629) b1 (by omega);cases h:decide (T<=c) with
 |true=>exact⟨_,Yj c s T p1 h⟩
 |false=>exact⟨_,Yk c s T _ o' n a p1 p2 f1 h⟩
theorem p12:qu (.int 10) (.int 12)=.ok (.int 1000000000000):=by rw[abX ⟨by decide,by decide,by decide⟩];exact congrArg (fun z=>Rs.ok (D.int z)) (by decide)
theorem m12:dZ (.int 2) (.int 1000000000000)=.ok (.int 2000000000000):=by rw[nQ (by decide)];exact congrArg (fun z=>Rs.ok (D.int z)) (by decide)
theorem ahB:bH (.int 2000000000000) (.int 1)=.ok (.int 2000000000001):=rfl
noncomputable def kp(a:Int):Int:=if (if a < 1000000000000 then a else 1000000000000) > -1000000000000 then (if a < 1000000000000 then a else 1000000000000) else-1000000000000
noncomputable def Bd(x:List Int):Prop:=-1100000000000<=c0 x/\c0 x<=1100000000000/\-1100000000000<=c1 x/\c1 x<=1100000000000
noncomputable def Bk(x:List Int):Prop:=-1000000000000<=c0 x/\c0 x<=1000000000000/\-1000000000000<=c1 x/\c1 x<=1000000000000
theorem Bk.bd{x:List Int}(h:Bk x):Bd x:=by unfold Bk at h;unfold Bd;omega
theorem Qm(a:Int):-1000000000000<=kp a/\kp a<=1000000000000:=by unfold kp;split <;> split <;> lia
theorem sV(a b:Int):∃x y:Int,bZ [.int a,.int b]=.ok (tupK [x,y])/\Bk [x,y]:=by
 refine⟨kp a,kp b,?_,(Qm a).1,(Qm a).2,(Qm b).1,(Qm b).2⟩;have mn:∀z:Int,vD [.int 1000000000000,.int z]=.ok (.int (if z < 1000000000000 then z else 1000000000000)):=fun _=>rfl;have mx:∀z:Int,Jf [.int (-1000000000000),.int (if z < 1000000000000 then z else 1000000000000)]=.ok (.int (kp z)):=fun _=>rfl;have run:nu (aU ["row","column"] [.int a,.int b])=.rt (tupK [kp a,kp b]):=by unfold nu;exact eF (cG (ao (cG (ao (Vg (aN bG bG p12)) (ao (cG (ao (aN bG bG p12) (ao (aC rfl) aL)) (mn _)) aL)) (mx _)) (ao (cG (ao (Vg (aN bG bG p12)) (ao (cG (ao (aN bG bG p12) (ao (aC rfl) aL)) (mn _)) aL)) (mx _)) aL)) (t2 _ _))
 unfold bZ;rw[run];rfl
theorem Ym(n:Int):∃x y n':Int,fj [.int n]=.ok (.tup [tupK [x,y],.int n']):=by
 have d1:=uX (m:=n) (n:=5) ⟨by decide,by decide⟩;have u0:0<=n % 5:=gf _ (by decide);generalize n / 5=n1 at d1;generalize n % 5=w at d1 u0;cases h:decide (w > 1) with
 |true =>
  refine⟨0,0,n1,?_⟩;have run:jl (aU ["number","way","row","column","by"] [.int n])=.rt (.tup [tupK [0,0],.int n1]):=by unfold jl;refine aJ (ρ1:=[.fz (.int n1),.fz (.int w),.no,.no,.no]) (jN (cG (ao (aC rfl) (ao bG aL)) d1) rfl) ?_;exact qN (eE (je (aN (aC rfl) bG (by rw[Et,h]))) (eF (cG (ao (cG (ao bG (ao bG aL)) (t2 _ _)) (ao (aC rfl) aL)) (t2 _ _))))
  unfold fj;rw[run];rfl
 |false =>
  have hw:w<=1:=by simpa using of_decide_eq_false h
  have two:∃D1 B1:Int,(0 < D1/\D1 < 2 ^ 64)/\(-(2 ^ 64) < B1/\B1 < 2 ^ 64)/\cN (.lst [.int 2000000000001,.int 2]) (.int w)=.ok (.int D1)/\cN (.lst [.int 1,.int 2000000000000]) (.int w)=.ok (.int B1):=by
   rcases(show w=0∨w=1 by omega) with rfl|rfl
   ·exact⟨_,_,by decide,by decide,uY vH,uY vH⟩
   ·exact⟨_,_,by decide,by decide,uY Jq,uY Jq⟩
  obtain⟨D1,B1,hD,hB,i1,i2⟩:=two;have d2:=uX (m:=n1) (n:=D1) (cdb hD.1 (by omega));generalize n1 / D1=n2 at d2;generalize n1 % D1=r at d2;have d3:=uX (m:=n2) (n:=D1) (cdb hD.1 (by omega));generalize n2 / D1=n3 at d3;generalize n2 % D1=c at d3;have e1:dZ (.int r) (.int B1)=.ok (.int (r * B1)):=nQ hB;have e2:dZ (.int c) (.int B1)=.ok (.int (c * B1)):=nQ hB;refine⟨r * B1 - 1000000000000,c * B1 - 1000000000000,n3,?_⟩;have l2:∀a b:D,uV [a,b]=.ok (.lst [a,b]):=fun a b=>HD (by simp);have run:jl (aU ["number","way","row","column","by"] [.int n])=.rt (.tup [tupK [r * B1 - 1000000000000,c * B1 - 1000000000000],.int n3]):=by unfold jl;refine aJ (ρ1:=[.fz (.int n1),.fz (.int w),.no,.no,.no]) (jN (cG (ao (aC rfl) (ao bG aL)) d1) rfl) ?_;refine aJ (bQ (je (aN (aC rfl) bG (by rw[Et,h]))) gk) ?_;refine aJ (ρ1:=[.fz (.int n2),.fz (.int w),.fz (.int r),.no,.no]) (jN (cG (ao (aC rfl) (ao (aN (cG (ao (aN (aN bG (aN bG bG p12) m12) bG ahB) (ao bG aL)) (l2 _ _)) (aC rfl) i1) aL)) d2) rfl) ?_;refine aJ (ρ1:=[.fz (.int n3),.fz (.int w),.fz (.int r),.fz (.int c),.no]) (jN (cG (ao (aC rfl) (ao (aN (cG (ao (aN (aN bG (aN bG bG p12) m12) bG ahB) (ao bG aL)) (l2 _ _)) (aC rfl) i1) aL)) d3) rfl) ?_;refine aJ (ig (aN (cG (ao bG (ao (aN bG (aN bG bG p12) m12) aL)) (l2 _ _)) (aC rfl) i2)) ?_;exact eF (cG (ao (cG (ao (aN (aN (aC rfl) (aC rfl) e1) (aN bG bG p12) jO) (ao (aN (aN (aC rfl) (aC rfl) e2) (aN bG bG p12) jO) aL)) (t2 _ _)) (ao (aC rfl) aL)) (t2 _ _))
  unfold fj;rw[run];rfl
theorem bI{h:Tg}{gb:aD->Ou}{d:D}{ds:List D}{ρ ρ1 ρ2:aD}{r:Ou}(h1:h d ρ=some ρ1)(h2:gb ρ1=.nx ρ2)(h3:dw h gb ds ρ2=r):dw h gb (d::ds) ρ=r:=by unfold dw;rw[h1];dsimp only;rw[h2];exact h3
structure GB (kvs:List (List Int×D))(n:Nat):Prop where
 gn:GN kvs
 le:kvs.length<=n
 bd:∀x∈kvs.map (·.1),Bk x
theorem GB.nil:GB [] 0:=⟨.nil,bE _,fun x h=>nomatch h⟩
theorem GB.put{kvs:List (List Int×D)}{n:Nat}(h:GB kvs n){x y:Int}(b:Bk [x,y]):GB (qQ kvs [x,y] (.bl true)) (n + 1) :=
 ⟨h.gn.put x y _,cx (Qc kvs [x,y] (.bl true)) (Nat.succ_le_succ h.le),fun z hz=>by
  rcases(vI kvs [x,y] z (.bl true)).mp hz with rfl|hz
  ·exact b
  ·exact h.bd z hz⟩
theorem GB.mono{kvs:List (List Int×D)}{n m:Nat}(h:GB kvs n)(l:n<=m):GB kvs m:=⟨h.gn,cx h.le l,h.bd⟩
theorem oW{kvs:List (List Int×D)}{k x:List Int}:x∈(jB kvs k).map (·.1)↔x∈kvs.map (·.1)/\x≠k:=by
 unfold jB;constructor
 ·intro h;obtain⟨p,hp,rfl⟩:=dC.mp h;obtain⟨h1,h2⟩:=fm.mp hp;exact⟨m_ h1,by simpa using h2⟩
 ·rintro⟨h1,h2⟩;obtain⟨p,hp,rfl⟩:=dC.mp h1;exact m_ (fm.mpr ⟨hp,by simpa using h2⟩)
theorem GB.out{kvs:List (List Int×D)}{n:Nat}(h:GB kvs n)(k:List Int):GB (jB kvs k) n :=
 ⟨(h.gn.out k).1,cx (h.gn.out k).2.1 h.le,fun x hx=>h.bd x (oW.mp hx).1⟩
structure GC (kvs:List (List Int×D))(n:Nat):Prop where
 gn:GN kvs
 le:kvs.length<=n
 bd:∀x∈kvs.map (·.1),Bd x
theorem GC.out{kvs:List (List Int×D)}{n:Nat}(h:GC kvs n)(k:List Int):GC (jB kvs k) n :=
 ⟨(h.gn.out k).1,cx (h.gn.out k).2.1 h.le,fun x hx=>h.bd x (oW.mp hx).1⟩
noncomputable abbrev R(n w:Int)(bx by_:Int)(kvs:List (List Int×D))(m:Int)(a5 a6 a7 a8 a9 a10 a11 a12 a13:Sl):aD:=[.fz (.int n),.fz (.int w),.fz (tupK [bx,by_]),.od kvs,.fz (.int m),a5,a6,a7,a8,a9,a10,a11,a12,a13]
theorem Nf{n w bx by_ m:Int}{kvs:List (List Int×D)}{N:Nat}{a5 a6 a7 a8 a9 a10 a11 a12 a13:Sl}{f1 f2:aD->Rs D}{u v:Int}(hk:GB kvs N)(hN:N<=1000)(h1:f1 (R n w bx by_ kvs m a5 a6 a7 a8 a9 a10 a11 a12 a13)=.ok (.int u))(h2:f2 (R n w bx by_ kvs m a5 a6 a7 a8 a9 a10 a11 a12 a13)=.ok (.int v)) :
  ∃kvs',ql 3 (fC (.bl true)) (fA (aj f1 (aj f2 aK)) (bf 2 bZ)) (R n w bx by_ kvs m a5 a6 a7 a8 a9 a10 a11 a12 a13)=.nx (R n w bx by_ kvs' m a5 a6 a7 a8 a9 a10 a11 a12 a13)/\GB kvs' (N + 1):=by
 obtain⟨x,y,e,b⟩:=sV u v;have l:=hk.le;exact⟨_,Qd (ks:=[x,y]) bG rfl (cG (ao h1 (ao h2 aL)) (bL rfl e)) (by lia),hk.put b⟩
theorem Yn{w bx by_ m:Int}{a7 a8 a9 a10 a11 a12 a13:Sl}:∀(l:List Nat) (n:Int) (kvs:List (List Int×D)) (N:Nat) (a5 a6:Sl),GB kvs N->N + l.length<=1000 ->
  ∃n' kvs' b5 b6,dw (aM 5) iI (l.map fun(i:Nat)=>.int i) (R n w bx by_ kvs m a5 a6 a7 a8 a9 a10 a11 a12 a13)=.nx (R n' w bx by_ kvs' m b5 b6 a7 a8 a9 a10 a11 a12 a13)/\GB kvs' (N + l.length)
 | [],n,kvs,N,a5,a6,g,_=>⟨n,kvs,a5,a6,rfl,g⟩
 |i::l,n,kvs,N,a5,a6,g,hl=>by
  rw[ck]at hl;have d1:=uX (m:=n) (n:=25) ⟨by decide,by decide⟩;generalize n / 25=n1 at d1;generalize n % 25=at_ at d1;have v5:uf (.int at_) (.int 5)=.ok (.int (at_ / 5)):=HJ ⟨by decide,by decide⟩;have r5:iD (.int at_) (.int 5)=.ok (.int (at_ % 5)):=qe (by decide);obtain⟨k1,e1,g1⟩:=Nf (n:=n1) (w:=w) (bx:=bx) (by_:=by_) (m:=m) (a5:=.fz (.int i)) (a6:=.fz (.int at_)) (a7:=a7) (a8:=a8) (a9:=a9) (a10:=a10) (a11:=a11) (a12:=a12) (a13:=a13) (f1:=aQ bH (aQ cN (aq 2) (fC (.int 0))) (aQ uf (aq 6) (fC (.int 5)))) (f2:=aQ bH (aQ cN (aq 2) (fC (.int 1))) (aQ iD (aq 6) (fC (.int 5)))) g (by lia) (aN (aN (aC rfl) bG rfl) (aN (aC rfl) bG v5) cC) (aN (aN (aC rfl) bG rfl) (aN (aC rfl) bG r5) cC);have st:iI (R n w bx by_ kvs m (.fz (.int i)) a6 a7 a8 a9 a10 a11 a12 a13)=.nx (R n1 w bx by_ k1 m (.fz (.int i)) (.fz (.int at_)) a7 a8 a9 a10 a11 a12 a13):=by unfold iI;exact aJ (ρ1:=R n1 w bx by_ kvs m (.fz (.int i)) (.fz (.int at_)) a7 a8 a9 a10 a11 a12 a13) (jN (cG (ao (aC rfl) (ao bG aL)) d1) rfl) e1
  obtain⟨n2,k2,b5,b6,e2,g2⟩:=Yn (w:=w) (bx:=bx) (by_:=by_) (m:=m) (a7:=a7) (a8:=a8) (a9:=a9) (a10:=a10) (a11:=a11) (a12:=a12) (a13:=a13) l n1 k1 (N + 1) (.fz (.int i)) (.fz (.int at_)) g1 (by lia);refine⟨n2,k2,b5,b6,?_,g2.mono (by rw[ck];lia)⟩;rw[bX];exact bI rfl st e2
theorem in2(r a b:Int):∃c:Bool,Zg (.int r) (.tup [.int a,.int b])=.ok (.bl c):=⟨_,by
 show Bx false _ _=_;simp only[Bx];rw[if_pos ⟨by simp[gP],by simp[gP,gw]⟩]⟩
theorem afh{n w bx by_ m k top tall wide r c:Int}{kvs:List (List Int×D)}{N:Nat}{a6 a12 a13:Sl}(g:GB kvs N)(hN:N<=1000) :
  ∃kvs',iJ (R n w bx by_ kvs m (.fz (.int k)) a6 (.fz (.int top)) (.fz (.int tall)) (.fz (.int wide)) (.fz (.int r)) (.fz (.int c)) a12 a13)=.nx (R n w bx by_ kvs' m (.fz (.int k)) a6 (.fz (.int top)) (.fz (.int tall)) (.fz (.int wide)) (.fz (.int r)) (.fz (.int c)) a12 a13)/\GB kvs' (N + 1):=by
 obtain⟨c1,e1⟩:=in2 r 0 tall;obtain⟨c2,e2⟩:=in2 c 0 wide;have m3:dZ (.int 3) (.int k)=.ok (.int (3 * k)):=Xl (by decide);obtain⟨k1,e3,g1⟩:=Nf (n:=n) (w:=w) (bx:=bx) (by_:=by_) (m:=m) (a5:=.fz (.int k)) (a6:=a6) (a7:=.fz (.int top)) (a8:=.fz (.int tall)) (a9:=.fz (.int wide)) (a10:=.fz (.int r)) (a11:=.fz (.int c)) (a12:=a12) (a13:=a13) (f1:=aQ bH (aQ bH (aQ cN (aq 2) (fC (.int 0))) (aq 7)) (aq 10)) (f2:=aQ bH (aQ jQ (aQ bH (aQ cN (aq 2) (fC (.int 1))) (aQ dZ (fC (.int 3)) (aq 5))) (aq 7)) (aq 11)) g hN (aN (aN (aN (aC rfl) bG rfl) (aC rfl) cC) (aC rfl) cC) (aN (aN (aN (aN (aC rfl) bG rfl) (aN bG (aC rfl) m3) cC) (aC rfl) jO) (aC rfl) cC);have t1:fT (aQ Zg (aq 10) (fA (aj (fC (.int 0)) (aj (aq 8) aK)) cU)) (R n w bx by_ kvs m (.fz (.int k)) a6 (.fz (.int top)) (.fz (.int tall)) (.fz (.int wide)) (.fz (.int r)) (.fz (.int c)) a12 a13)=.ok c1:=je (aN (aC rfl) (cG (ao bG (ao (aC rfl) aL)) (t2 _ _)) e1);have t2':fT (aQ Zg (aq 11) (fA (aj (fC (.int 0)) (aj (aq 9) aK)) cU)) (R n w bx by_ kvs m (.fz (.int k)) a6 (.fz (.int top)) (.fz (.int tall)) (.fz (.int wide)) (.fz (.int r)) (.fz (.int c)) a12 a13)=.ok c2:=je (aN (aC rfl) (cG (ao bG (ao (aC rfl) aL)) (t2 _ _)) e2);unfold iJ;cases c1 with
 |true=>exact⟨k1,eE (Vh t1) e3,g1⟩
 |false =>
  cases c2 with
  |true=>exact⟨k1,eE (Es t1 t2') e3,g1⟩
  |false=>exact⟨kvs,bQ (Es t1 t2') gk,g.mono (oQ _)⟩
theorem Yo{n w bx by_ m k top tall wide r:Int}{a6 a12 a13:Sl}:∀(l:List Nat) (kvs:List (List Int×D)) (N:Nat) (a11:Sl),GB kvs N->N + l.length<=1000 ->
  ∃kvs' vX,dw (aM 11) iJ (l.map fun(i:Nat)=>.int i) (R n w bx by_ kvs m (.fz (.int k)) a6 (.fz (.int top)) (.fz (.int tall)) (.fz (.int wide)) (.fz (.int r)) a11 a12 a13)=.nx (R n w bx by_ kvs' m (.fz (.int k)) a6 (.fz (.int top)) (.fz (.int tall)) (.fz (.int wide)) (.fz (.int r)) vX a12 a13)/\GB kvs' (N + l.length)
 | [],kvs,N,a11,g,_=>⟨kvs,a11,rfl,g⟩
 |i::l,kvs,N,a11,g,hl=>by rw[ck]at hl;obtain⟨k1,e1,g1⟩:=afh (n:=n) (w:=w) (bx:=bx) (by_:=by_) (m:=m) (k:=k) (top:=top) (tall:=tall) (wide:=wide) (r:=r) (c:=i) (a6:=a6) (a12:=a12) (a13:=a13) g (by lia);obtain⟨k2,vX,e2,g2⟩:=Yo (n:=n) (w:=w) (bx:=bx) (by_:=by_) (m:=m) (k:=k) (top:=top) (tall:=tall) (wide:=wide) (r:=r) (a6:=a6) (a12:=a12) (a13:=a13) l k1 (N + 1) (.fz (.int i)) g1 (by lia);refine⟨k2,vX,?_,g2.mono (by rw[ck];lia)⟩;rw[bX];exact bI rfl e1 e2
theorem abp{n w bx by_ m k top tall r:Int}{W:Nat}(hW:(1:Int) + W < 2 ^ 62){a6 a11 a12 a13 vX:Sl}{kvs k1:List (List Int×D)}(e1:dw (aM 11) iJ ((bS (1 + W)).map fun(i:Nat)=>.int i) (R n w bx by_ kvs m (.fz (.int k)) a6 (.fz (.int top)) (.fz (.int tall)) (.fz (.int W)) (.fz (.int r)) a11 a12 a13)=.nx (R n w bx by_ k1 m (.fz (.int k)) a6 (.fz (.int top)) (.fz (.int tall)) (.fz (.int W)) (.fz (.int r)) vX a12 a13)) :
  kJ (R n w bx by_ kvs m (.fz (.int k)) a6 (.fz (.int top)) (.fz (.int tall)) (.fz (.int W)) (.fz (.int r)) a11 a12 a13)=.nx (R n w bx by_ k1 m (.fz (.int k)) a6 (.fz (.int top)) (.fz (.int tall)) (.fz (.int W)) (.fz (.int r)) vX a12 a13):=by
 unfold kJ;exact mG (N:=1 + W) (n:=1 + (W:Int)) (aN bG (aC rfl) cC) hW (by omega) e1
theorem abq{n w bx by_ m k top tall:Int}{W:Nat}(hW:W<=4){a6 a12 a13:Sl}(l:List Nat):∀(kvs:List (List Int×D)) (N:Nat) (a10 a11:Sl),GB kvs N->N + l.length * 5<=1000 ->
  ∃kvs' b10 vX,dw (aM 10) kJ (l.map fun(i:Nat)=>.int i) (R n w bx by_ kvs m (.fz (.int k)) a6 (.fz (.int top)) (.fz (.int tall)) (.fz (.int W)) a10 a11 a12 a13)=.nx (R n w bx by_ kvs' m (.fz (.int k)) a6 (.fz (.int top)) (.fz (.int tall)) (.fz (.int W)) b10 vX a12 a13)/\GB kvs' (N + l.length * 5):=by
 have hW2:(1:Int) + W < 2 ^ 62:=by omega
 induction l with
 |nil=>exact fun kvs N a10 a11 g _=>⟨kvs,a10,a11,rfl,g.mono (qh _ _)⟩
 |cons i l ih =>
  intro kvs N a10 a11 g hl;rw[ck,kA]at hl;obtain⟨k1,vX,e1,g1⟩:=Yo (n:=n) (w:=w) (bx:=bx) (by_:=by_) (m:=m) (k:=k) (top:=top) (tall:=tall) (wide:=W) (r:=i) (a6:=a6) (a12:=a12) (a13:=a13) (bS (1 + W)) kvs N a11 g (by rw[d_];omega);rw[d_]at g1;obtain⟨k2,b10,c11,e2,g2⟩:=ih k1 (N + 5) (.fz (.int i)) vX (g1.mono (by omega)) (by omega);refine⟨k2,b10,c11,?_,g2.mono (by rw[ck,kA];omega)⟩;rw[bX];exact bI rfl (abp hW2 e1) e2
theorem Yp{w bx by_ m:Int}{a6 a12 a13:Sl}:∀(l:List Nat) (n:Int) (kvs:List (List Int×D)) (N:Nat) (a5 a7 a8 a9 a10 a11:Sl),GB kvs N->N + l.length * 25<=1000 ->
  ∃n' kvs' b5 b7 b8 b9 b10 vX,dw (aM 5) iK (l.map fun(i:Nat)=>.int i) (R n w bx by_ kvs m a5 a6 a7 a8 a9 a10 a11 a12 a13)=.nx (R n' w bx by_ kvs' m b5 a6 b7 b8 b9 b10 vX a12 a13)/\GB kvs' (N + l.length * 25)
 | [],n,kvs,N,a5,a7,a8,a9,a10,a11,g,_=>⟨n,kvs,a5,a7,a8,a9,a10,a11,rfl,g.mono (by simp)⟩
 |i::l,n,kvs,N,a5,a7,a8,a9,a10,a11,g,hl=>by
  rw[ck,kA]at hl;have d1:=uX (m:=n) (n:=4) ⟨by decide,by decide⟩;generalize n / 4=n1 at d1;generalize n % 4=top at d1;have d2:=uX (m:=n1) (n:=5) ⟨by decide,by decide⟩;have u0:0<=n1 % 5:=gf _ (by decide);have u1:n1 % 5 < 5:=iF _ (by decide);generalize n1 / 5=n2 at d2;generalize n1 % 5=tl at d2 u0 u1;obtain⟨Ta,rfl⟩:∃Ta:Nat,tl=Ta:=⟨tl.toNat,by lia⟩
  have d3:=uX (m:=n2) (n:=5) ⟨by decide,by decide⟩;have u2:0<=n2 % 5:=gf _ (by decide);have u3:n2 % 5 < 5:=iF _ (by decide);generalize n2 / 5=n3 at d3;generalize n2 % 5=wd at d3 u2 u3;obtain⟨W,rfl⟩:∃W:Nat,wd=W:=⟨wd.toNat,by lia⟩
  obtain⟨k1,b10,vX,e1,g1⟩:=abq (n:=n3) (w:=w) (bx:=bx) (by_:=by_) (m:=m) (k:=i) (top:=top) (tall:=Ta) (W:=W) (by lia) (a6:=a6) (a12:=a12) (a13:=a13) (bS (1 + Ta)) kvs N a10 a11 g (by rw[d_];lia);rw[d_]at g1;have st:iK (R n w bx by_ kvs m (.fz (.int i)) a6 a7 a8 a9 a10 a11 a12 a13)=.nx (R n3 w bx by_ k1 m (.fz (.int i)) a6 (.fz (.int top)) (.fz (.int Ta)) (.fz (.int W)) b10 vX a12 a13):=by unfold iK;refine aJ (ρ1:=R n1 w bx by_ kvs m (.fz (.int i)) a6 (.fz (.int top)) a8 a9 a10 a11 a12 a13) (jN (cG (ao (aC rfl) (ao bG aL)) d1) rfl) ?_;refine aJ (ρ1:=R n2 w bx by_ kvs m (.fz (.int i)) a6 (.fz (.int top)) (.fz (.int Ta)) a9 a10 a11 a12 a13) (jN (cG (ao (aC rfl) (ao bG aL)) d2) rfl) ?_;refine aJ (ρ1:=R n3 w bx by_ kvs m (.fz (.int i)) a6 (.fz (.int top)) (.fz (.int Ta)) (.fz (.int W)) a10 a11 a12 a13) (jN (cG (ao (aC rfl) (ao bG aL)) d3) rfl) ?_;exact mG (N:=1 + Ta) (n:=1 + (Ta:Int)) (aN bG (aC rfl) cC) (by omega) (by omega) e1
  obtain⟨n4,k2,c5,c7,c8,c9,c10,c11,e2,g2⟩:=Yp (w:=w) (bx:=bx) (by_:=by_) (m:=m) (a6:=a6) (a12:=a12) (a13:=a13) l n3 k1 (N + 25) (.fz (.int i)) (.fz (.int top)) (.fz (.int Ta)) (.fz (.int W)) b10 vX (g1.mono (by lia)) (by lia);refine⟨n4,k2,c5,c7,c8,c9,c10,c11,?_,g2.mono (by rw[ck,kA];lia)⟩;rw[bX];exact bI rfl st e2
theorem Yq{n w bx by_ m r bits:Int}{a5 a6 a7 a8 a9 a13:Sl}:∀(l:List Nat) (kvs:List (List Int×D)) (N:Nat) (a11:Sl),GB kvs N->N + l.length<=1000 ->
  ∃kvs' vX,dw (aM 11) kO (l.map fun(i:Nat)=>.int i) (R n w bx by_ kvs m a5 a6 a7 a8 a9 (.fz (.int r)) a11 (.fz (.int bits)) a13)=.nx (R n w bx by_ kvs' m a5 a6 a7 a8 a9 (.fz (.int r)) vX (.fz (.int bits)) a13)/\GB kvs' (N + l.length)
 | [],kvs,N,a11,g,_=>⟨kvs,a11,rfl,g⟩
 |i::l,kvs,N,a11,g,hl=>by
  rw[ck]at hl;obtain⟨k1,e1,g1⟩:=Nf (n:=n) (w:=w) (bx:=bx) (by_:=by_) (m:=m) (a5:=a5) (a6:=a6) (a7:=a7) (a8:=a8) (a9:=a9) (a10:=.fz (.int r)) (a11:=.fz (.int i)) (a12:=.fz (.int bits)) (a13:=a13) (f1:=aQ bH (aQ cN (aq 2) (fC (.int 0))) (aq 10)) (f2:=aQ bH (aQ cN (aq 2) (fC (.int 1))) (aq 11)) g (by lia) (aN (aN (aC rfl) bG rfl) (aC rfl) cC) (aN (aN (aC rfl) bG rfl) (aC rfl) cC);have q1:Xw (.int bits) (.int i)=.ok (.int (bits / 2 ^ (i:Int).toNat)):=by simp[Xw,gI]
  generalize bits / 2 ^ (i:Int).toNat=z at q1;have q2:abg (.int z) (.int 1)=.ok (.int (o_ z 1)):=rfl;generalize o_ z 1=y at q2;have q3:=nq (m:=y) (n:=1);have t1:fT (aQ oE (aQ abg (aQ Xw (aq 12) (aq 11)) (fC (.int 1))) (fC (.int 1))) (R n w bx by_ kvs m a5 a6 a7 a8 a9 (.fz (.int r)) (.fz (.int i)) (.fz (.int bits)) a13)=.ok (decide (y=1)):=je (aN (aN (aN (aC rfl) (aC rfl) q1) bG q2) bG q3);have st:∃k1,kO (R n w bx by_ kvs m a5 a6 a7 a8 a9 (.fz (.int r)) (.fz (.int i)) (.fz (.int bits)) a13)=.nx (R n w bx by_ k1 m a5 a6 a7 a8 a9 (.fz (.int r)) (.fz (.int i)) (.fz (.int bits)) a13)/\GB k1 (N + 1):=by
   unfold kO;cases c:decide (y=1) with
   |true=>rw[c]at t1;exact⟨k1,eE t1 e1,g1⟩
   |false=>rw[c]at t1;exact⟨kvs,bQ t1 gk,g.mono (oQ _)⟩
  obtain⟨k1,st,g1⟩:=st;obtain⟨k2,vX,e2,g2⟩:=Yq (n:=n) (w:=w) (bx:=bx) (by_:=by_) (m:=m) (r:=r) (bits:=bits) (a5:=a5) (a6:=a6) (a7:=a7) (a8:=a8) (a9:=a9) (a13:=a13) l k1 (N + 1) (.fz (.int i)) g1 (by lia);refine⟨k2,vX,?_,g2.mono (by rw[ck];lia)⟩;rw[bX];exact bI rfl st e2
theorem Yr{w bx by_ m:Int}{a5 a6 a7 a8 a9 a13:Sl}:∀(l:List Nat) (n:Int) (kvs:List (List Int×D)) (N:Nat) (a10 a11 a12:Sl),GB kvs N->N + l.length * 6<=1000 ->
  ∃n' kvs' b10 vX b12,dw (aM 10) iM (l.map fun(i:Nat)=>.int i) (R n w bx by_ kvs m a5 a6 a7 a8 a9 a10 a11 a12 a13)=.nx (R n' w bx by_ kvs' m a5 a6 a7 a8 a9 b10 vX b12 a13)/\GB kvs' (N + l.length * 6)
 | [],n,kvs,N,a10,a11,a12,g,_=>⟨n,kvs,a10,a11,a12,rfl,g.mono (by simp)⟩
 |i::l,n,kvs,N,a10,a11,a12,g,hl=>by
  rw[ck,kA]at hl;have d1:=uX (m:=n) (n:=64) ⟨by decide,by decide⟩;generalize n / 64=n1 at d1;generalize n % 64=bits at d1;obtain⟨k1,vX,e1,g1⟩:=Yq (n:=n1) (w:=w) (bx:=bx) (by_:=by_) (m:=m) (r:=i) (bits:=bits) (a5:=a5) (a6:=a6) (a7:=a7) (a8:=a8) (a9:=a9) (a13:=a13) (bS 6) kvs N a11 g (by rw[d_];lia);rw[d_]at g1;have st:iM (R n w bx by_ kvs m a5 a6 a7 a8 a9 (.fz (.int i)) a11 a12 a13)=.nx (R n1 w bx by_ k1 m a5 a6 a7 a8 a9 (.fz (.int i)) vX (.fz (.int bits)) a13):=by unfold iM;refine aJ (ρ1:=R n1 w bx by_ kvs m a5 a6 a7 a8 a9 (.fz (.int i)) a11 (.fz (.int bits)) a13) (jN (cG (ao (aC rfl) (ao bG aL)) d1) rfl) ?_;exact mG (N:=6) (n:=6) bG (by decide) rfl e1
  obtain⟨n2,k2,c10,c11,c12,e2,g2⟩:=Yr (w:=w) (bx:=bx) (by_:=by_) (m:=m) (a5:=a5) (a6:=a6) (a7:=a7) (a8:=a8) (a9:=a9) (a13:=a13) l n1 k1 (N + 6) (.fz (.int i)) vX (.fz (.int bits)) g1 (by lia);refine⟨n2,k2,c10,c11,c12,?_,g2.mono (by rw[ck,kA];lia)⟩;rw[bX];exact bI rfl st e2
end yt
namespace yt
open PySem PySem.Spec PySem.Calls PySem.W L2 Vl So
theorem Aw{ρ:aD}{j:Nat}{kvs:List (List Int×D)}(hj:ρ[j]?=some (.od kvs))(g:GN kvs)(hl:kvs.length < 4900):qR j ρ=.ok (.lst ((So.bO (kvs.map (·.1))).map tupK)):=by unfold qR;rw[hj];show(if kvs.length < 4900/\∀p∈kvs,p.1≠[] then Rs.ok (D.lst ((So.bO (kvs.map (·.1))).map tupK)) else .no)=_;rw[if_pos ⟨hl,fun p hp=>(g.pr p.1 (m_ hp)).ne⟩]
theorem Qn{ρ:aD}{j:Nat}{kvs:List (List Int×D)}(hj:ρ[j]?=some (.od kvs))(hl:kvs.length<=1000000):zV j ρ=.ok (.int kvs.length):=by unfold zV;rw[hj];show(if kvs.length<=1000000 then Rs.ok (D.int kvs.length) else .no)=_;rw[if_pos hl]
theorem abr{L:KL}{i:Int}(h0:0<=i)(h1:i < L.length):∃x∈L,cN (.lst (L.map tupK)) (.int i)=.ok (tupK x):=by
 have hj:i.toNat < L.length:=by omega
 refine⟨L[i.toNat],eW hj,uY ?_⟩;unfold xO NK;rw[if_pos h0,if_pos (by rw[cn];exact h1)];simp[d9 hj]
theorem Ng{ρ:aD}{j:Nat}{kvs:List (List Int×D)}{ks:List Int}{f:aD->Rs D}(hj:ρ[j]?=some (.od kvs))(hf:f ρ=.ok (tupK ks))(hl:kvs.length<=1000000)(hk:ks∈kvs.map (·.1)):zU j f ρ=.nx (ρ.set j (.od (jB kvs ks))):=by unfold zU;rw[hj];show oR (f ρ) ρ _=_;rw[hf];show(match tu (tupK ks) with|some ks=>if kvs.length<=1000000/\(iu kvs ks).isSome then Ou.nx _ else .no|none=>.no)=_;rw[sO];show(if kvs.length<=1000000/\(iu kvs ks).isSome then Ou.nx _ else .no)=_;rw[if_pos ⟨hl,by rw[mK];exact decide_eq_true hk⟩]
theorem Ys{w bx by_ m:Int}{a7 a8 a9 a10 a11 a12 a13:Sl}{N:Nat}(hN:N<=1000):∀(l:List Nat) (n:Int) (kvs:List (List Int×D)) (a5 a6:Sl),GB kvs N->l.length<=kvs.length ->
  ∃n' kvs' b5 b6,dw (aM 5) iQ (l.map fun(i:Nat)=>.int i) (R n w bx by_ kvs m a5 a6 a7 a8 a9 a10 a11 a12 a13)=.nx (R n' w bx by_ kvs' m b5 b6 a7 a8 a9 a10 a11 a12 a13)/\GB kvs' N
 | [],n,kvs,a5,a6,g,_=>⟨n,kvs,a5,a6,rfl,g⟩
 |i::l,n,kvs,a5,a6,g,hl=>by
  simp only[ck]at hl;have le:=g.le;have hpos:(0:Int) < kvs.length:=by omega
  have d1:=uX (m:=n) (n:=kvs.length) (cdb hpos (by omega));have u0:0<=n % (kvs.length:Int):=gf _ (by omega);have u1:n % (kvs.length:Int) < kvs.length:=iF _ hpos;generalize n / (kvs.length:Int)=n1 at d1;generalize n % (kvs.length:Int)=at_ at d1 u0 u1;obtain⟨x,hx,ex⟩:=abr (L:=So.bO (kvs.map (·.1))) u0 (by rw[oK,cn];exact u1);obtain⟨_,l2,l3⟩:=g.gn.out x;have st:iQ (R n w bx by_ kvs m (.fz (.int i)) a6 a7 a8 a9 a10 a11 a12 a13)=.nx (R n1 w bx by_ (jB kvs x) m (.fz (.int i)) (.fz (.int at_)) a7 a8 a9 a10 a11 a12 a13):=by unfold iQ;refine aJ (ρ1:=R n1 w bx by_ kvs m (.fz (.int i)) (.fz (.int at_)) a7 a8 a9 a10 a11 a12 a13) (jN (cG (ao (aC rfl) (ao (Qn rfl (by omega)) aL)) d1) rfl) ?_;exact Ng rfl (aN (Aw rfl g.gn (by omega)) (aC rfl) ex) (by omega) (gR.mp hx)
  obtain⟨n2,k2,c5,c6,e2,g3⟩:=Ys (w:=w) (bx:=bx) (by_:=by_) (m:=m) (a7:=a7) (a8:=a8) (a9:=a9) (a10:=a10) (a11:=a11) (a12:=a12) (a13:=a13) hN l n1 (jB kvs x) (.fz (.int i)) (.fz (.int at_)) (g.out x) (by omega);refine⟨n2,k2,c5,c6,?_,g3⟩;rw[bX];exact bI rfl st e2
structure RM (L:KL):Prop where
 st:jW L
 le:L.length<=100
 bd:∀x∈L,Bd x
noncomputable abbrev bI0:aD->Ou:=oY (fT (aQ oE (aq 1) (fC (.int 0)))) (lG (jj (aM 5) iI (aQ bH (aq 4) (fC (.int 1))))) qw
noncomputable abbrev bI1:aD->Ou:=oY (fT (aQ oE (aq 1) (fC (.int 1)))) (lG (jj (aM 5) iK (aQ bH (fC (.int 1)) (aQ iD (aq 4) (fC (.int 3)))))) qw
noncomputable abbrev bI2:aD->Ou:=oY (fT (aQ QW (aq 1) (fC (.int 1)))) (lG (jj (aM 10) iM (aQ bH (aq 4) (fC (.int 1))))) qw
noncomputable abbrev afi:aD->Ou:=bC (lM (fA (aj (aq 0) (aj (fC (.int 3)) aK)) Cv) (mD 2 (cF (aM 0) (cF (aM 13) mY))))
  (bC (lG (jj (aM 5) iQ (fA (aj (aq 13) (aj (zV 3) aK)) vD)))
  (dh (fA (aj (fA (aj (qR 3) aK) nG) (aj (aq 0) aK)) cU)))
theorem wY{n w bx by_ m:Int}{kvs:List (List Int×D)}(g:GB kvs 90){a5 a6 a7 a8 a9 a10 a11 a12:Sl}:∃(A:KL) (n':Int),afi (R n w bx by_ kvs m a5 a6 a7 a8 a9 a10 a11 a12 .no)=.rt (.tup [.tup (A.map tupK),.int n'])/\RM A/\A.length<=90/\∀x∈A,Bk x:=by
 have le:=g.le;have d7:=uX (m:=n) (n:=3) ⟨by decide,by decide⟩;have u4:0<=n % 3:=gf _ (by omega);generalize n / 3=n7 at d7;generalize n % 3=gn at d7 u4;have hN:∃N:Nat,vD [.int gn,.int kvs.length]=.ok (.int N)/\N<=kvs.length:=by
  have e:vD [.int gn,.int kvs.length]=.ok (.int (if (kvs.length:Int) < gn then (kvs.length:Int) else gn)):=rfl;by_cases c:(kvs.length:Int) < gn
  ·exact⟨kvs.length,by rw[e,if_pos c],bE _⟩
  ·exact⟨gn.toNat,by rw[e,if_neg c,Int.toNat_of_nonneg u4],by omega⟩
 obtain⟨N,eN,hN1⟩:=hN;obtain⟨n8,k8,f5,f6,e8,g8⟩:=Ys (w:=w) (bx:=bx) (by_:=by_) (m:=m) (a7:=a7) (a8:=a8) (a9:=a9) (a10:=a10) (a11:=a11) (a12:=a12) (a13:=.fz (.int gn)) (N:=90) (by omega) (bS N) n7 kvs a5 a6 g (by rw[d_];exact hN1);have l8:=g8.le;refine⟨So.bO (k8.map (·.1)),n8,?_,⟨jW.sort (L:=k8.map (·.1)) (fun x hx=>g8.gn.pr x hx) g8.gn.nd,by rw[oK,cn];omega,fun x hx=>(g8.bd x (gR.mp hx)).bd⟩,by rw[oK,cn];omega,fun x hx=>g8.bd x (gR.mp hx)⟩;refine aJ (ρ1:=R n7 w bx by_ kvs m a5 a6 a7 a8 a9 a10 a11 a12 (.fz (.int gn))) (jN (cG (ao (aC rfl) (ao bG aL)) d7) rfl) ?_;refine aJ (ni (mG (N:=N) (cG (ao (aC rfl) (ao (Qn rfl (by omega)) aL)) eN) (by omega) rfl e8)) ?_;exact eF (cG (ao (cG (ao (Aw rfl g8.gn (by omega)) aL) rfl) (ao (aC rfl) aL)) (t2 _ _))
theorem abt(n:Int):∃(A:KL) (n':Int),jE [.int n]=.ok (.tup [.tup (A.map tupK),.int n'])/\RM A/\A.length<=90/\∀x∈A,Bk x:=by
 have d1:=uX (m:=n) (n:=5) ⟨by decide,by decide⟩;have u0:0<=n % 5:=gf _ (by decide);generalize n / 5=n1 at d1;generalize n % 5=w at d1 u0;obtain⟨bx,by_,n2,hb⟩:=Ym n1;have d3:=uX (m:=n2) (n:=6) ⟨by decide,by decide⟩;have u2:0<=n2 % 6:=gf _ (by decide);have u3:n2 % 6 < 6:=iF _ (by decide);generalize n2 / 6=n3 at d3;generalize n2 % 6=mm at d3 u2 u3;obtain⟨M,rfl⟩:∃M:Nat,mm=M:=⟨mm.toNat,by omega⟩
 have pre:∀o:Ou,bC bI0 (bC bI1 (bC bI2 afi)) (R n3 w bx by_ [] M .no .no .no .no .no .no .no .no .no)=o->lN (aU ["number","way","base","cells","many","k","at","top","tall","wide","row","column","bits","gone"] [.int n])=o:=fun o h=>by unfold lN;refine aJ (ρ1:=[.fz (.int n1),.fz (.int w),.no,.no,.no,.no,.no,.no,.no,.no,.no,.no,.no,.no]) (jN (cG (ao (aC rfl) (ao bG aL)) d1) rfl) ?_;refine aJ (ρ1:=[.fz (.int n2),.fz (.int w),.fz (tupK [bx,by_]),.no,.no,.no,.no,.no,.no,.no,.no,.no,.no,.no]) (jN (cG (ao (aC rfl) aL) (bL rfl hb)) rfl) ?_;refine aJ (ρ1:=[.fz (.int n2),.fz (.int w),.fz (tupK [bx,by_]),.od [],.no,.no,.no,.no,.no,.no,.no,.no,.no,.no]) rfl ?_;exact aJ (ρ1:=R n3 w bx by_ [] M .no .no .no .no .no .no .no .no .no) (jN (cG (ao (aC rfl) (ao bG aL)) d3) rfl) h
 have acr:∀ρ:aD,ρ[1]?=some (.fz (.int w))->w≠0->bI0 ρ=.nx ρ:=fun ρ h c=>bQ (je (aN (aC h) bG (by rw[nq,decide_eq_false c]))) gk;have acs:∀ρ:aD,ρ[1]?=some (.fz (.int w))->w≠1->bI1 ρ=.nx ρ:=fun ρ h c=>bQ (je (aN (aC h) bG (by rw[nq,decide_eq_false c]))) gk;have acu:∀ρ:aD,ρ[1]?=some (.fz (.int w))->¬1 < w->bI2 ρ=.nx ρ:=fun ρ h c=>bQ (je (aN (aC h) bG (by rw[Et,decide_eq_false c]))) gk;have key:∃(A:KL) (n':Int),bC bI0 (bC bI1 (bC bI2 afi)) (R n3 w bx by_ [] M .no .no .no .no .no .no .no .no .no)=.rt (.tup [.tup (A.map tupK),.int n'])/\RM A/\A.length<=90/\∀x∈A,Bk x:=by
  by_cases c0:w=0
  ·subst c0;obtain⟨n4,k4,b5,b6,e4,g4⟩:=Yn (w:=0) (bx:=bx) (by_:=by_) (m:=M) (a7:=.no) (a8:=.no) (a9:=.no) (a10:=.no) (a11:=.no) (a12:=.no) (a13:=.no) (bS (M + 1)) n3 [] 0 .no .no .nil (by rw[d_];omega);rw[d_]at g4;obtain⟨A,n',e,hA⟩:=wY (n:=n4) (w:=0) (bx:=bx) (by_:=by_) (m:=M) (g4.mono (by omega)) (a5:=b5) (a6:=b6) (a7:=.no) (a8:=.no) (a9:=.no) (a10:=.no) (a11:=.no) (a12:=.no);refine⟨A,n',aJ (eE (je (aN (aC rfl) bG rfl)) (ni (mG (N:=M + 1) (n:=(M:Int) + 1) (aN (aC rfl) bG cC) (by omega) (by omega) e4))) ?_,hA⟩;exact aJ (acs _ rfl (by decide)) (aJ (acu _ rfl (by decide)) e)
  ·by_cases c1:w=1
   ·subst c1;have r3:=qe (m:=(M:Int)) (n:=3) (by decide);have v0:0<=(M:Int) % 3:=gf _ (by decide);have v1:(M:Int) % 3 < 3:=iF _ (by decide);generalize (M:Int) % 3=q at r3 v0 v1;obtain⟨Q,rfl⟩:∃Q:Nat,q=Q:=⟨q.toNat,by omega⟩
    obtain⟨n4,k4,b5,b7,b8,b9,b10,vX,e4,g4⟩:=Yp (w:=1) (bx:=bx) (by_:=by_) (m:=M) (a6:=.no) (a12:=.no) (a13:=.no) (bS (1 + Q)) n3 [] 0 .no .no .no .no .no .no .nil (by rw[d_];omega);rw[d_]at g4;obtain⟨A,n',e,hA⟩:=wY (n:=n4) (w:=1) (bx:=bx) (by_:=by_) (m:=M) (g4.mono (by omega)) (a5:=b5) (a6:=.no) (a7:=b7) (a8:=b8) (a9:=b9) (a10:=b10) (a11:=vX) (a12:=.no);refine⟨A,n',aJ (acr _ rfl (by decide)) (aJ (eE (je (aN (aC rfl) bG rfl)) (ni (mG (N:=1 + Q) (n:=1 + (Q:Int)) (aN bG (aN (aC rfl) bG r3) cC) (by omega) (by omega) e4))) ?_),hA⟩;exact aJ (acu _ rfl (by decide)) e
   ·obtain⟨n4,k4,b10,vX,b12,e4,g4⟩:=Yr (w:=w) (bx:=bx) (by_:=by_) (m:=M) (a5:=.no) (a6:=.no) (a7:=.no) (a8:=.no) (a9:=.no) (a13:=.no) (bS (M + 1)) n3 [] 0 .no .no .no .nil (by rw[d_];omega);rw[d_]at g4;obtain⟨A,n',e,hA⟩:=wY (n:=n4) (w:=w) (bx:=bx) (by_:=by_) (m:=M) (g4.mono (by omega)) (a5:=.no) (a6:=.no) (a7:=.no) (a8:=.no) (a9:=.no) (a10:=b10) (a11:=vX) (a12:=b12);refine⟨A,n',aJ (acr _ rfl c0) (aJ (acs _ rfl c1) (aJ (eE (je (aN (aC rfl) bG (by rw[Et,decide_eq_true (by omega)]))) (ni (mG (N:=M + 1) (n:=(M:Int) + 1) (aN (aC rfl) bG cC) (by omega) (by omega) e4))) e)),hA⟩
 obtain⟨A,n',e,hA⟩:=key;exact⟨A,n',by unfold jE;rw[pre _ e];rfl,hA⟩
noncomputable def Ad(x y:List Int):Prop:=Pair y/\(-1<=c0 y - c0 x/\c0 y - c0 x<=1)/\(-1<=c1 y - c1 x/\c1 y - c1 x<=1)
noncomputable def tE(a b:Int):KL:=[[a,b],[a,b + 1],[a,b + 2]]
noncomputable def sq(x:List Int):KL:=tE (c0 x - 1) (c1 x - 1)++(tE (c0 x) (c1 x - 1)++tE (c0 x + 1) (c1 x - 1))
noncomputable def nb(x:List Int):KL:=(sq x).filter fun y=>!decide (y=x)
theorem afj{x y:List Int}(h:Ad x y)(ne:y≠x):y∈nb x:=by
 refine fm.mpr ⟨?_,by simpa using ne⟩;obtain⟨⟨u,v,rfl⟩,⟨h1,h2⟩,h3,h4⟩:=h;have e0:c0 [u,v]=u:=rfl;have e1:c1 [u,v]=v:=rfl;rw[e0]at h1 h2;rw[e1]at h3 h4;have k:(u=c0 x - 1∨u=c0 x∨u=c0 x + 1)/\(v=c1 x - 1∨v=c1 x - 1 + 1∨v=c1 x - 1 + 2):=by omega
 unfold sq tE;obtain⟨rfl|rfl|rfl,rfl|rfl|rfl⟩:=k <;> simp
theorem acv{x y:List Int}(h:y∈nb x):Ad x y:=by have h1:=(fm.mp h).1;unfold sq tE at h1;simp only[oI,ij,cm,f9,or_false]at h1;have e0:∀u v:Int,c0 [u,v]=u:=fun _ _=>rfl;have e1:∀u v:Int,c1 [u,v]=v:=fun _ _=>rfl;rcases h1 with rfl|rfl|rfl|rfl|rfl|rfl|rfl|rfl|rfl <;> exact⟨⟨_,_,rfl⟩,by simp only[e0];omega,by simp only[e1];omega⟩
theorem r3(m:Int):((bS 3).map fun(i:Nat)=>D.int (m + i))=[.int m,.int (m + 1),.int (m + 2)]:=by show [D.int (m + (0:Nat)),D.int (m + (1:Nat)),D.int (m + (2:Nat))]=_;simp
theorem afk{m:Int}(h:-2000000000000<=m/\m<=2000000000000):Jg [.int m,.int (m + 3)]=.ok [.int m,.int (m + 1),.int (m + 2)]:=by
 have e:((m + 3) - m).toNat=3:=by omega
 simp only[Jg];rw[if_pos ⟨by omega,by omega,by omega,by omega⟩,e,r3]
theorem afl{a b r:Int}(hb:-1100000000000<=b/\b<=1100000000000){acc:KL}(hl:acc.length<=100) :
  jG [.fz (tupK [a,b]),.ow (acc.map tupK),.fz (.int r)]=.nx [.fz (tupK [a,b]),.ow ((acc++tE r (b - 1)).map tupK),.fz (.int r)]:=by
 have e2:b + 2=(b - 1) + 3:=by omega
 have it:fL2 (aj (aQ jQ (aQ cN (aq 0) (fC (.int 1))) (fC (.int 1))) (aj (aQ bH (aQ cN (aq 0) (fC (.int 1))) (fC (.int 2))) aK)) Jg [.fz (tupK [a,b]),.ow (acc.map tupK),.fz (.int r)]=.ok [.int (b - 1),.int (b - 1 + 1),.int (b - 1 + 2)]:=by unfold fL2;rw[show aj (aQ jQ (aQ cN (aq 0) (fC (.int 1))) (fC (.int 1))) (aj (aQ bH (aQ cN (aq 0) (fC (.int 1))) (fC (.int 2))) aK) [.fz (tupK [a,b]),.ow (acc.map tupK),.fz (.int r)]=.ok [.int (b - 1),.int (b + 2)] from ao (aN (aN (aC rfl) bG rfl) bG jO) (ao (aN (aN (aC rfl) bG rfl) bG cC) aL),e2];exact afk (by omega)
 have cp:dW (aM 0) (fun _=>.ok true) rE 1 [2] (fL2 (aj (aQ jQ (aQ cN (aq 0) (fC (.int 1))) (fC (.int 1))) (aj (aQ bH (aQ cN (aq 0) (fC (.int 1))) (fC (.int 2))) aK)) Jg) [.fz (tupK [a,b]),.ow (acc.map tupK),.fz (.int r)]=.ok (.lst ((tE r (b - 1)).map tupK)):=by refine Vi it ?_ (by simp[tE]);generalize b - 1=c;rfl
 unfold jG Jh;show oR (dW _ _ _ _ _ _ _) _ _=_;rw[cp];show(if (acc.map tupK).length + ((tE r (b - 1)).map tupK).length<=1000000 then Ou.nx _ else .no)=_;rw[if_pos (by rw[cn,cn];simp only[tE,ck,d4];omega),iL];rfl
theorem ahD{x:List Int}(hx:Pair x)(hb:Bd x):cH [tupK x]=.ok (.lst ((nb x).map tupK)):=by
 obtain⟨a,b,rfl⟩:=hx;obtain⟨b1,b2,b3,b4⟩:=hb;have e0:c0 [a,b]=a:=rfl;have e1:c1 [a,b]=b:=rfl;rw[e0]at b1 b2;rw[e1]at b3 b4;have e2:a + 2=(a - 1) + 3:=by omega
 have sx:sq [a,b]=tE (a - 1) (b - 1)++(tE a (b - 1)++tE (a + 1) (b - 1)):=rfl;have lp:dw (aM 2) jG [.int (a - 1),.int (a - 1 + 1),.int (a - 1 + 2)] [.fz (tupK [a,b]),.ow [],.no]=.nx [.fz (tupK [a,b]),.ow ((sq [a,b]).map tupK),.fz (.int (a + 1))]:=by refine bI (ρ1:=[.fz (tupK [a,b]),.ow (([]:KL).map tupK),.fz (.int (a - 1))]) rfl (afl ⟨b3,b4⟩ (by simp)) ?_;rw[show a - 1 + 1=a by omega,show a - 1 + 2=a + 1 by omega];refine bI (ρ1:=[.fz (tupK [a,b]),.ow (([]++tE (a - 1) (b - 1)).map tupK),.fz (.int a)]) rfl (afl ⟨b3,b4⟩ (by simp[tE])) ?_;refine bI (ρ1:=[.fz (tupK [a,b]),.ow ((([]++tE (a - 1) (b - 1))++tE a (b - 1)).map tupK),.fz (.int (a + 1))]) rfl (afl ⟨b3,b4⟩ (by simp[tE])) ?_;rw[sx,ij,eP];rfl
 have cp:dW (aM 0) mQ rF 1 [0] (fL (aq 1) Zf) [.fz (tupK [a,b]),.fz (.lst ((sq [a,b]).map tupK)),.fz (.int (a + 1))]=.ok (.lst ((nb [a,b]).map tupK)):=by refine mj (cs:=[.fz (tupK [a,b])]) rfl (v_l (aC rfl) rfl) (fun k hk=>?_) (fun k hk=>rfl) (by simp[sq,tE]);unfold mQ;refine je (aN (aC rfl) (aC rfl) ?_);rw[aec (cx (mJ k) (by decide)) (cx (mJ [a,b]) (by decide)),vJ]
 have run:lO (aU ["cell","near","row"] [tupK [a,b]])=.rt (.lst ((nb [a,b]).map tupK)):=by
  unfold lO;refine aJ (ρ1:=[.fz (tupK [a,b]),.ow [],.no]) rfl ?_;refine aJ (ρ1:=[.fz (tupK [a,b]),.ow ((sq [a,b]).map tupK),.fz (.int (a + 1))]) (ni ?_) ?_
  ·unfold qI;rw[show aj (aQ jQ (aQ cN (aq 0) (fC (.int 0))) (fC (.int 1))) (aj (aQ bH (aQ cN (aq 0) (fC (.int 0))) (fC (.int 2))) aK) [.fz (tupK [a,b]),.ow [],.no]=.ok [.int (a - 1),.int (a + 2)] from ao (aN (aN (aC rfl) bG rfl) bG jO) (ao (aN (aN (aC rfl) bG rfl) bG cC) aL),e2];simp only[Jo];rw[if_pos ⟨by omega,by omega,by omega,by omega⟩,show((a - 1 + 3) - (a - 1)).toNat=3 by omega,r3];exact lp
  ·show dh _ [.fz (tupK [a,b]),.fz (.lst ((sq [a,b]).map tupK)),.fz (.int (a + 1))]=_;exact eF cp
 unfold cH;rw[run];rfl
noncomputable abbrev ji(kvs:List (List Int×D)):KL:=kvs.map (·.1)
structure Bf (P:List Int->Prop)(f:List Int)(kvs:List (List Int×D))(Q:KL):Prop where
 gb:GC kvs 100
 nd:Q.Nodup
 uni:∀x,P x↔x∈ji kvs∨x∈Q
 dis:∀x∈Q,x∉ji kvs
 fst:f∈Q
 rch:∀S:List Int->Prop,S f->(∀x y,P x->P y->S x->Ad x y->S y)->∀x∈Q,S x
theorem Bf.start{P:List Int->Prop}{f:List Int}{kvs:List (List Int×D)}(g:GC kvs 100)(h:∀x,P x↔x∈ji kvs)(hf:f∈ji kvs):Bf P f (jB kvs f) [f] where
 gb:=g.out f
 nd:=by simp
 uni:=fun x=>by
  rw[h x,oW,ie];constructor
  ·intro hx;by_cases c:x=f
   ·exact .inr c
   ·exact .inl ⟨hx,c⟩
  ·rintro(hx|rfl)
   ·exact hx.1
   ·exact hf
 dis:=fun x hx=>by rw[ie.mp hx,oW];exact fun z=>z.2 rfl
 fst:=.head _
 rch:=fun S s _ x hx=>by rw[ie.mp hx];exact s
theorem Bf.add{P:List Int->Prop}{f:List Int}{kvs:List (List Int×D)}{Q:KL}(h:Bf P f kvs Q){x y:List Int}(hx:x∈Q)(ha:Ad x y)(hy:y∈ji kvs):Bf P f (jB kvs y) (Q++[y]) where
 gb:=h.gb.out y
 nd:=by rw[List.nodup_append];refine⟨h.nd,by simp,fun a ha' b hb=>?_⟩;rw[ie.mp hb];intro e;subst e;exact h.dis a ha' hy
 uni:=fun z=>by
  rw[h.uni z,oW,dt,ie];constructor
  ·rintro(hz|hz)
   ·by_cases c:z=y
    ·exact .inr (.inr c)
    ·exact .inl ⟨hz,c⟩
   ·exact .inr (.inl hz)
  ·rintro(hz|hz|rfl)
   ·exact .inl hz.1
   ·exact .inr hz
   ·exact .inl hy
 dis:=fun z hz=>by
  rw[oW];rcases dt.mp hz with hz|hz
  ·exact fun w=>h.dis z hz w.1
  ·exact fun w=>w.2 (ie.mp hz)
 fst:=g7 _ h.fst
 rch:=fun S s c z hz=>by
  rcases dt.mp hz with hz|hz
  ·exact h.rch S s c z hz
  ·rw[ie.mp hz];exact c x y ((h.uni x).mpr (.inr hx)) ((h.uni y).mpr (.inl hy)) (h.rch S s c x hx) ha
noncomputable def Cl(P:List Int->Prop)(Q:KL)(p:Nat):Prop:=∀i x,i < p->Q[i]?=some x->∀y,Ad x y->P y->y∈Q
noncomputable def Rc(P:List Int->Prop)(x y:List Int):Prop:=P y/\∀S:List Int->Prop,S x->(∀u v,P u->P v->S u->Ad u v->S v)->S y
theorem Bf.rc{P:List Int->Prop}{f:List Int}{kvs:List (List Int×D)}{Q:KL}(h:Bf P f kvs Q)(c:Cl P Q Q.length)(x:List Int):x∈Q↔Rc P f x:=by
 constructor
 ·intro hx;exact⟨(h.uni x).mpr (.inr hx),fun S s k=>h.rch S s k x hx⟩
 ·rintro⟨_,h2⟩;refine h2 (fun z=>z∈Q) h.fst fun u v pu pv hu ha=>?_;obtain⟨i,hi⟩:=jn.mp hu;exact c i u (dm.mp hi).1 hi v ha pv
theorem Bf.left{P:List Int->Prop}{f:List Int}{kvs:List (List Int×D)}{Q:KL}(h:Bf P f kvs Q)(c:Cl P Q Q.length)(x:List Int):x∈ji kvs↔P x/\¬Rc P f x:=by
 rw[<- h.rc c x,h.uni x];constructor
 ·exact fun hx=>⟨.inl hx,fun z=>h.dis x z hx⟩
 ·rintro⟨hx|hx,n⟩
  ·exact hx
  ·exact absurd hx n
theorem sG:∀{L M:KL},L.Nodup->(∀x∈L,x∈M)->L.length<=M.length
 | [],M,_,_=>eJ _
 |x::L,M,nd,h=>by obtain⟨n1,n2⟩:=g_.mp nd;have hx:=h x (.head _);have:=sG (L:=L) (M:=M.erase x) n2 fun y hy=>(List.mem_erase_of_ne (fun e:y=x=>n1 (by rw[<- e];exact hy))).mpr (h y (.tail _ hy));have l:=List.length_erase_of_mem hx;have p:=List.length_pos_of_mem hx;simp only[ck];omega
open Classical in
noncomputable def Qo (A:KL) (P:List Int->Prop) (x:List Int):KL:=A.filter fun y=>decide (Rc P x y)
open Classical in
noncomputable def rws (A:KL):KL->(List Int->Prop)->List KL
 | [],_=>[]
 |x::T,P=>if P x then Qo A P x::rws A T (fun y=>P y/\¬Rc P x y) else rws A T P
open Classical in
theorem Dr{A:KL}{P:List Int->Prop}{x y:List Int}:y∈Qo A P x↔y∈A/\Rc P x y:=by unfold Qo;rw[fm,decide_eq_true_eq]
theorem JX{A:KL}(hA:jW A){P:List Int->Prop}(hP:∀x,P x->x∈A){f:List Int}{kvs:List (List Int×D)}{Q:KL}(h:Bf P f kvs Q)(c:Cl P Q Q.length):bO Q=Qo A P f:=by have pr:∀x∈Q,Pair x:=fun x hx=>hA.pr x (hP x ((h.uni x).mpr (.inr hx)));refine(jW.sort pr h.nd).ext (hA.filter _) fun x=>?_;rw[gR,h.rc c x];exact⟨fun z=>Dr.mpr ⟨hP x z.1,z⟩,fun z=>(Dr.mp z).2⟩
theorem Nh{ρ:aD}{i:Nat}{f:aD->Rs D}{ds:List D}{d:D}(h0:ρ[i]?=some (.ow ds))(h:f (ρ.set i (.fz (.lst ds)))=.ok d)(n:Jk d=true):xJ i f ρ=.ok d:=by unfold xJ;rw[h0];dsimp only;rw[h];dsimp only;rw[if_pos n]
theorem yE{ρ:aD}{i:Nat}{f:aD->Rs Bool}{ds:List D}{b:Bool}(h0:ρ[i]?=some (.ow ds))(h:f (ρ.set i (.fz (.lst ds)))=.ok b):lJ i f ρ=.ok b:=by unfold lJ;rw[h0];exact h
theorem qb{ρ:aD}{j:Nat}{kvs:List (List Int×D)}{ks:List Int}{f:aD->Rs D}(hj:ρ[j]?=some (.od kvs))(hf:f ρ=.ok (tupK ks)):jP j f ρ=.ok (.bl (decide (ks∈ji kvs))):=by unfold jP;rw[hf];show(match tu (tupK ks),ρ[j]? with|some ks,some (.od kvs)=>Rs.ok (D.bl (iu kvs ks).isSome)|_,_=>.no)=_;rw[sO,hj];show Rs.ok (D.bl (iu kvs ks).isSome)=_;rw[mK]
theorem Yt{ρ:aD}{j:Nat}{kvs:List (List Int×D)}{ks:List Int}{f:aD->Rs D}(hj:ρ[j]?=some (.oe kvs))(hf:f ρ=.ok (tupK ks))(hl:kvs.length<=1000000)(hk:ks∈ji kvs):Dp j f ρ=.nx (ρ.set j (.oe (jB kvs ks))):=by unfold Dp;rw[hj];show oR (f ρ) ρ _=_;rw[hf];show(match tu (tupK ks) with|some ks=>if kvs.length<=1000000/\(iu kvs ks).isSome then Ou.nx _ else .no|none=>.no)=_;rw[sO];show(if kvs.length<=1000000/\(iu kvs ks).isSome then Ou.nx _ else .no)=_;rw[if_pos ⟨hl,by rw[mK];exact decide_eq_true hk⟩]
theorem JZ:∀l:List Int,Jl (l.map D.int)=true
 | []=>rfl
 |x::l=>by simp only[bX,Jl,Jk,JZ l];rfl
theorem Ay(k:List Int):Jk (tupK k)=true:=by show Jk (.tup (k.map D.int))=true;simp only[Jk];exact JZ k
theorem Ds:∀L:KL,Jl (L.map tupK)=true
 | []=>rfl
 |x::L=>by simp only[bX,Jl,Ay,Ds L];rfl
theorem Ni{Q:KL}{p:Nat}{x:List Int}(h:Q[p]?=some x):cN (.lst (Q.map tupK)) (.int p)=.ok (tupK x):=by have hl:=(dm.mp h).1;refine uY ?_;unfold xO NK;rw[if_pos (by omega),if_pos (by rw[cn];omega)];simp[h]
noncomputable abbrev F1(f:List Int):Sl:=.fz (tupK f)
noncomputable abbrev F2:Sl:=.fz (.fn "neighbours")
theorem abu{P:List Int->Prop}{f:List Int}{kvs:List (List Int×D)}{Q:KL}(h:Bf P f kvs Q)(lQ:Q.length<=1000){x y:List Int}(hx:x∈Q)(ha:Ad x y){f1 p4 a5:Sl} :
  ∃kvs' Q',iV [.oe kvs,f1,F2,.ow (Q.map tupK),p4,a5,.fz (tupK y)]=.nx [.oe kvs',f1,F2,.ow (Q'.map tupK),p4,a5,.fz (tupK y)]/\Bf P f kvs' Q'/\(∃E,Q'=Q++E)/\(P y->y∈Q'):=by
 have l:=h.gb.le;have t:aeS 0 (fT (jP 0 (aq 6))) [.oe kvs,f1,F2,.ow (Q.map tupK),p4,a5,.fz (tupK y)]=.ok (decide (y∈ji kvs)):=by show fT (jP 0 (aq 6)) [.od kvs,f1,F2,.ow (Q.map tupK),p4,a5,.fz (tupK y)]=_;exact je (qb rfl (aC rfl))
 unfold iV;by_cases c:y∈ji kvs
 ·rw[decide_eq_true c]at t;refine⟨jB kvs y,Q++[y],eE t ?_,h.add hx ha c,⟨[y],rfl⟩,fun _=>fw _ (.head _)⟩;refine aJ (ρ1:=[.oe (jB kvs y),f1,F2,.ow (Q.map tupK),p4,a5,.fz (tupK y)]) (Yt rfl (aC rfl) (by omega) c) ?_;rw[iL];exact acp rfl (aC rfl) (by omega)
 ·rw[decide_eq_false c]at t;exact⟨kvs,Q,bQ t gk,h,⟨[],(dP _).symm⟩,fun p=>((h.uni y).mp p).resolve_left c⟩
theorem Bf.len{P:List Int->Prop}{f:List Int}{kvs:List (List Int×D)}{Q:KL}(h:Bf P f kvs Q){A:KL}(hP:∀x,P x->x∈A):Q.length<=A.length:=sG h.nd fun x hx=>hP x ((h.uni x).mpr (.inr hx))
theorem Yu{P:List Int->Prop}{f:List Int}{A:KL}(hP:∀x,P x->x∈A)(lA:A.length<=100){x:List Int}{f1 p4 a5:Sl}:∀(T:KL) (kvs:List (List Int×D)) (Q:KL) (a6:Sl),Bf P f kvs Q->x∈Q->(∀y∈T,Ad x y) ->
  ∃kvs' Q' b6,dw (aM 6) iV (T.map tupK) [.oe kvs,f1,F2,.ow (Q.map tupK),p4,a5,a6]=.nx [.oe kvs',f1,F2,.ow (Q'.map tupK),p4,a5,b6]/\Bf P f kvs' Q'/\(∃E,Q'=Q++E)/\∀y∈T,P y->y∈Q'
 | [],kvs,Q,a6,h,hx,_=>⟨kvs,Q,a6,rfl,h,⟨[],(dP _).symm⟩,fun y hy=>nomatch hy⟩
 |y::T,kvs,Q,a6,h,hx,ha=>by
  have lQ:=h.len hP;obtain⟨k1,Q1,e1,h1,⟨E1,hE1⟩,m1⟩:=abu h (by omega) hx (ha y (.head _)) (f1:=f1) (p4:=p4) (a5:=a5);obtain⟨k2,Q2,b6,e2,h2,⟨E2,hE2⟩,m2⟩:=Yu hP lA (f1:=f1) (p4:=p4) (a5:=a5) T k1 Q1 (.fz (tupK y)) h1 (by rw[hE1];exact g7 _ hx) (fun z hz=>ha z (.tail _ hz));refine⟨k2,Q2,b6,?_,h2,⟨E1++E2,by rw[hE2,hE1,eP]⟩,fun z hz p=>?_⟩
  ·rw[bX];exact bI rfl e1 e2
  ·rcases cm.mp hz with rfl|hz
   ·rw[hE2];exact g7 _ (m1 p)
   ·exact m2 z hz p
theorem abv{ρ:aD}{x:List Int}{fs:aD->Rs (List D)}(h0:ρ[2]?=some F2)(hf:fs ρ=.ok [tupK x])(hx:Pair x)(hb:Bd x):Ju 2 1 cI fs ρ=.ok (.lst ((nb x).map tupK)):=by
 unfold Ju;rw[h0];have lk:kS ("neighbours":Str) cI=some cH:=by unfold cI;rw[j7];rfl
 dsimp only;rw[lk];dsimp only;rw[hf];dsimp only[Rs.bind];rw[if_pos (show [tupK x].length=1 from rfl),ahD hx hb]
theorem Cl.next{P:List Int->Prop}{Q E:KL}{p:Nat}{x:List Int}(c:Cl P Q p)(hp:Q[p]?=some x)(m:∀y,Ad x y->P y->y∈Q++E):Cl P (Q++E) (p + 1):=by
 intro i z hi hz y ha py;have lp:=(dm.mp hp).1;by_cases e:i=p
 ·subst e;rw[eT lp,hp]at hz;cases hz;exact m y ha py
 ·rw[eT (by omega)]at hz;exact g7 _ (c i z (by omega) hz y ha py)
theorem Nj{P:List Int->Prop}{f:List Int}{A:KL}(hP:∀x,P x->x∈A)(lA:A.length<=100)(pr:∀x∈A,Pair x)(bd:∀x∈A,Bd x){kvs:List (List Int×D)}{Q:KL}(h:Bf P f kvs Q){p:Nat}{x:List Int}(hp:Q[p]?=some x)(c:Cl P Q p){f1 a5 a6:Sl} :
  ∃kvs' Q' b5 b6,iW [.oe kvs,f1,F2,.ow (Q.map tupK),.fz (.int p),a5,a6]=.nx [.oe kvs',f1,F2,.ow (Q'.map tupK),.fz (.int ((p + 1:Nat):Int)),b5,b6]/\Bf P f kvs' Q'/\Cl P Q' (p + 1)/\Q.length<=Q'.length:=by
 have hx:x∈Q:=i7 hp;have hxA:=hP x ((h.uni x).mpr (.inr hx));obtain⟨k1,Q1,b6,e1,h1,⟨E,hE⟩,m⟩:=Yu hP lA (f1:=f1) (p4:=.fz (.int p)) (a5:=.fz (tupK x)) (nb x) kvs Q a6 h hx (fun y hy=>acv hy);refine⟨k1,Q1,.fz (tupK x),b6,?_,h1,?_,by rw[hE,dn];omega⟩
 ·unfold iW;refine aJ (ρ1:=[.oe kvs,f1,F2,.ow (Q.map tupK),.fz (.int p),.fz (tupK x),a6]) (ig (Nh rfl (aN (aC rfl) (aC rfl) (Ni hp)) (Ay x))) ?_;refine aJ (uo (abv rfl (ao (aC rfl) aL) (pr x hxA) (bd x hxA)) e1) ?_;exact ig (aN (aC rfl) bG cC)
 ·rw[hE];refine c.next hp fun y ha py=>?_;by_cases e:y=x
  ·rw[e];exact g7 _ hx
  ·rw[<- hE];exact m y (afj ha e) py
theorem Yv{P:List Int->Prop}{f:List Int}{A:KL}(hP:∀x,P x->x∈A)(lA:A.length<=100)(pr:∀x∈A,Pair x)(bd:∀x∈A,Bd x){f1:Sl}:∀(n p:Nat) (kvs:List (List Int×D)) (Q:KL) (a5 a6:Sl),Bf P f kvs Q->Cl P Q p->p<=Q.length->A.length + 1<=n + p ->
  ∃kvs' Q' p' b5 b6,Sd (lJ 3 (fT (aQ gLt (aq 4) (fA (aj (aq 3) aK) mC)))) iW n [.oe kvs,f1,F2,.ow (Q.map tupK),.fz (.int p),a5,a6]=.nx [.oe kvs',f1,F2,.ow (Q'.map tupK),p',b5,b6]/\Bf P f kvs' Q'/\Cl P Q' Q'.length
 | 0,p,kvs,Q,a5,a6,h,c,hp,hl=>by have:=h.len hP;omega
 |n + 1,p,kvs,Q,a5,a6,h,c,hp,hl=>by
  have t:lJ 3 (fT (aQ gLt (aq 4) (fA (aj (aq 3) aK) mC))) [.oe kvs,f1,F2,.ow (Q.map tupK),.fz (.int p),a5,a6]=.ok (decide ((p:Int) < ((Q.map tupK).length:Int))):=yE rfl (je (aN (aC rfl) (cG (ao (aC rfl) aL) rfl) KJ));rw[cn]at t;by_cases e:p < Q.length
  ·rw[decide_eq_true (by omega)]at t;obtain⟨x,hx⟩:∃x,Q[p]?=some x:=⟨Q[p],d9 e⟩
   obtain⟨k1,Q1,b5,b6,e1,h1,c1,l1⟩:=Nj hP lA pr bd h hx c (f1:=f1) (a5:=a5) (a6:=a6);obtain⟨k2,Q2,p2,c5,c6,e2,h2,c2⟩:=Yv hP lA pr bd (f1:=f1) n (p + 1) k1 Q1 b5 b6 h1 c1 (by omega) (by omega);refine⟨k2,Q2,p2,c5,c6,?_,h2,c2⟩;unfold Sd;rw[t];dsimp only;rw[e1];exact e2
  ·rw[decide_eq_false (by omega)]at t;have ep:p=Q.length:=by omega
   refine⟨kvs,Q,.fz (.int p),a5,a6,?_,h,by rw[ep]at c;exact c⟩;unfold Sd;rw[t]
theorem abw{P:List Int->Prop}{A:KL}(hP:∀x,P x->x∈A)(lA:A.length<=100)(pr:∀x∈A,Pair x)(bd:∀x∈A,Bd x){kvs:List (List Int×D)}(g:GC kvs 100)(hk:∀x,P x↔x∈ji kvs){f:List Int}(hf:f∈ji kvs) :
  ∃kvs' Q,cX kvs [tupK f,.fn "neighbours"]=.ok (.lst (Q.map tupK),kvs')/\Bf P f kvs' Q/\Cl P Q Q.length:=by
 have l:=g.le;obtain⟨k1,Q1,p1,b5,b6,e1,h1,c1⟩:=Yv hP lA pr bd (f1:=F1 f) 1000 0 (jB kvs f) [f] .no .no (.start g hk hf) (fun i x hi=>absurd hi (Nat.not_lt_zero _)) (eJ _) (by omega);refine⟨k1,Q1,?_,h1,c1⟩;have run:kW (qT ["left","first","near","chain","place","here","other"] kvs [tupK f,.fn "neighbours"])=.rx (.lst (Q1.map tupK)) [.oe k1,F1 f,F2,.fz (.lst (Q1.map tupK)),p1,b5,b6]:=by unfold kW;refine aJ (ρ1:=[.oe kvs,F1 f,F2,.ow [tupK f],.no,.no,.no]) rfl ?_;refine aJ (ρ1:=[.oe (jB kvs f),F1 f,F2,.ow [tupK f],.no,.no,.no]) (Yt rfl (aC rfl) (by omega) hf) ?_;refine aJ (ρ1:=[.oe (jB kvs f),F1 f,F2,.ow [tupK f],.fz (.int 0),.no,.no]) (ig bG) ?_;refine aJ (ni e1) ?_;rfl
 unfold cX;rw[run];rfl
noncomputable abbrev Ka(r:KL):D:=.tup (r.map tupK)
theorem Yw{L:KL}(h:jW L):bO L=L:=jW.ext (.sort h.pr h.nd) h fun x=>gR
theorem Kc{Q:KL}(hp:∀x∈Q,Pair x)(l:Q.length<=1000):nP [.lst (Q.map tupK)]=.ok (.lst ((bO Q).map tupK)):=Xr (by omega) hp
theorem Yx{A:KL}(hA:RM A):nP [.lst (A.map tupK)]=.ok (.lst (A.map tupK)):=by have l:=hA.le;rw[Kc hA.st.pr (by omega),Yw hA.st]
theorem Yy{A:KL}(hA:RM A):∃kvs,rD [.lst (A.map tupK)]=.ok kvs/\GC kvs 100/\∀x,x∈A↔x∈ji kvs:=by
 have la:=hA.le;obtain⟨ρ1,e1,kvs,a2,rfl,km⟩:=zY (h:=aM 2) (g:=uJ) tupK (fun done ρ=>∃kvs a2,ρ=[.fz (.lst (A.map tupK)),.od kvs,a2]/\Km kvs done.length (fun k=>k∈done)) (L:=A) (ρ:=[.fz (.lst (A.map tupK)),.od [],.no]) ⟨_,_,rfl,Km.nil.mono (bE _) (fun k=>by simp)⟩ (by
  rintro x done ρ hx hd ⟨kvs,a2,rfl,km⟩;obtain⟨u,v,rfl⟩:=hA.st.pr x hx;have l:=km.le;refine⟨_,[.fz (.lst (A.map tupK)),.od (qQ kvs [u,v] (.bl true)),.fz (tupK [u,v])],rfl,?_,_,_,rfl,(km.put u v (.bl true) (M':=fun k=>k∈done++[[u,v]]) fun k=>by rw[dt,ie];exact or_comm).mono (by rw[dn];exact bE _) (fun k=>Iff.rfl)⟩;unfold uJ;exact Qd (ks:=[u,v]) bG rfl (aC rfl) (by omega))
 have l:=km.le;refine⟨kvs,?_,⟨km.gn,by omega,fun x hx=>hA.bd x ((km.iff x).mp hx)⟩,fun x=>(km.iff x).symm⟩;unfold rD Ah zZ;rw[show Rr 1 (aU ["cells","told","cell"] [.lst (A.map tupK)])=.nx [.fz (.lst (A.map tupK)),.od [],.no] from rfl];dsimp only;rw[ni (uo (aC rfl) e1)];rfl
theorem Nk{P:List Int->Prop}{A:KL}(hA:RM A)(hP:∀x,P x->x∈A){kvs:List (List Int×D)}(g:GC kvs 100)(hk:∀x,P x↔x∈ji kvs){f:List Int}(hf:f∈ji kvs){C:Sl}{ds:List D}(ld:ds.length<=1000) :
  ∃kvs' Q,jX [C,F2,.od kvs,.ow ds,.fz (tupK f)]=.nx [C,F2,.od kvs',.ow (ds++[.lst (Q.map tupK)]),.fz (tupK f)]/\Bf P f kvs' Q/\Cl P Q Q.length:=by
 obtain⟨k1,Q,e,h,c⟩:=abw hP hA.le hA.st.pr hA.bd g hk hf;refine⟨k1,Q,?_,h,c⟩;have t:fT (jP 2 (aq 4)) [C,F2,.od kvs,.ow ds,.fz (tupK f)]=.ok true:=by rw[je (qb rfl (aC rfl)),decide_eq_true hf]
 unfold jX;refine eE t ?_;have x1:xE 2 2 cX (xPA (aj (aq 4) (aj (aq 1) aK))) [C,F2,.od kvs,.ow ds,.fz (tupK f)]=.ok (.lst (Q.map tupK),[C,F2,.od k1,.ow ds,.fz (tupK f)]):=by
  unfold xE;show bx (xPA (aj (aq 4) (aj (aq 1) aK)) [C,F2,.od kvs,.ow ds,.fz (tupK f)]) _=_;have a1:xPA (aj (aq 4) (aj (aq 1) aK)) [C,F2,.od kvs,.ow ds,.fz (tupK f)]=.ok ([tupK f,.fn "neighbours"],[C,F2,.od kvs,.ow ds,.fz (tupK f)]):=by unfold xPA;rw[show aj (aq 4) (aj (aq 1) aK) [C,F2,.od kvs,.ow ds,.fz (tupK f)]=.ok [tupK f,.fn "neighbours"] from ao (aC rfl) (ao (aC rfl) aL)];rfl
  rw[a1];show(match cX kvs [tupK f,.fn "neighbours"] with|.ok (d,es')=>Rs.ok (d,List.set [C,F2,.od kvs,.ow ds,.fz (tupK f)] 2 (tW (.od kvs) es'))|_=>.no)=_;rw[e];rfl
 unfold PN;show oX (xE 2 2 cX (xPA (aj (aq 4) (aj (aq 1) aK))) [C,F2,.od kvs,.ow ds,.fz (tupK f)]) _=_;rw[x1];show(if ds.length < 1000000 then Ou.nx _ else .no)=_;rw[if_pos (by omega)];rfl
theorem Nm{kvs:List (List Int×D)}{f:List Int}(hf:f∉ji kvs){C a3:Sl}:jX [C,F2,.od kvs,a3,.fz (tupK f)]=.nx [C,F2,.od kvs,a3,.fz (tupK f)]:=by
 have t:fT (jP 2 (aq 4)) [C,F2,.od kvs,a3,.fz (tupK f)]=.ok false:=by rw[je (qb rfl (aC rfl)),decide_eq_false hf]
 unfold jX;exact bQ t gk
theorem uM{A:KL}(hA:RM A){C:Sl}:∀(T:KL) (P:List Int->Prop) (kvs:List (List Int×D)) (ds:List D) (a4:Sl),(∀x,P x->x∈A)->GC kvs 100->(∀x,P x↔x∈ji kvs)->ds.length + T.length<=1000 ->
  ∃(kvs':List (List Int×D)) (Dt:List KL) (b4:Sl),dw (aM 4) jX (T.map tupK) [C,F2,.od kvs,.ow ds,a4]=.nx [C,F2,.od kvs',.ow (ds++Dt.map fun Q=>D.lst (Q.map tupK)),b4]/\Dt.map bO=rws A T P/\∀Q∈Dt,Q.Nodup/\Q.length<=100/\∀x∈Q,Pair x
 | [],P,kvs,ds,a4,_,_,_,_=>⟨kvs,[],a4,by rw[gu,gu,dP];rfl,by simp[rws],fun Q hQ=>nomatch hQ⟩
 |f::T,P,kvs,ds,a4,hP,g,hk,hl=>by
  rw[ck]at hl;by_cases hf:P f
  ·obtain⟨k1,Q,e1,h,c⟩:=Nk hA hP g hk ((hk f).mp hf) (C:=C) (ds:=ds) (by omega);obtain⟨k2,Dt,b4,e2,r2,q2⟩:=uM hA (C:=C) T (fun y=>P y/\¬Rc P f y) k1 (ds++[.lst (Q.map tupK)]) (.fz (tupK f)) (fun x hx=>hP x hx.1) h.gb (fun x=>(h.left c x).symm) (by rw[dn];simp only[ck,d4];omega);refine⟨k2,Q::Dt,b4,?_,?_,fun Q' hQ=>?_⟩
   ·rw[bX,bX];refine(bI rfl e1 e2).trans ?_;rw[eP];rfl
   ·rw[bX,r2]
    conv=>rhs;unfold rws
    rw[if_pos hf,JX hA.st hP h c]
   ·rcases cm.mp hQ with rfl|hQ
    ·have lq:=h.len hP;have la:=hA.le;exact⟨h.nd,by omega,fun x hx=>hA.st.pr x (hP x ((h.uni x).mpr (.inr hx)))⟩
    ·exact q2 Q' hQ
  ·obtain⟨k2,Dt,b4,e2,r2,q2⟩:=uM hA (C:=C) T P kvs ds (.fz (tupK f)) hP g hk (by omega);refine⟨k2,Dt,b4,?_,?_,q2⟩
   ·rw[bX];exact bI rfl (Nm fun z=>hf ((hk f).mpr z)) e2
   ·rw[r2]
    conv=>rhs;unfold rws
    rw[if_neg hf]
theorem Yz{A:KL}(hA:RM A):∃Dt:List KL,rG [.lst (A.map tupK),.fn "neighbours"]=.ok (.lst (Dt.map fun Q=>.lst (Q.map tupK)))/\Dt.map bO=rws A A (fun x=>x∈A)/\∀Q∈Dt,Q.Nodup/\Q.length<=100/\∀x∈Q,Pair x:=by
 have la:=hA.le;obtain⟨kvs,e0,g,hk⟩:=Yy hA;obtain⟨k2,Dt,b4,e2,r2,q2⟩:=uM hA (C:=.fz (.lst (A.map tupK))) A (fun x=>x∈A) kvs [] .no (fun x hx=>hx) g hk (by simp only[d4];omega);refine⟨Dt,?_,r2,q2⟩;rw[ij]at e2;have run:vM (aU ["cells","near","left","told","cell"] [.lst (A.map tupK),.fn "neighbours"])=.rt (.lst (Dt.map fun Q=>.lst (Q.map tupK))):=by
  unfold vM;refine aJ (ρ1:=[.fz (.lst (A.map tupK)),F2,.od kvs,.no,.no]) ?_ ?_
  ·unfold Ge;rw[show aj (aq 0) aK (aU ["cells","near","left","told","cell"] [.lst (A.map tupK),.fn "neighbours"])=.ok [.lst (A.map tupK)] from ao (aC rfl) aL];simp only[Jo];rw[if_pos (show [D.lst (A.map tupK)].length=1 from rfl),e0];rfl
  refine aJ (ρ1:=[.fz (.lst (A.map tupK)),F2,.od kvs,.ow [],.no]) rfl ?_;refine aJ (ni (uo (cG (ao (aC rfl) aL) (Yx hA)) e2)) ?_;rfl
 unfold rG;rw[run];rfl
theorem YB{Q:KL}(nd:Q.Nodup)(l:Q.length<=100)(hp:∀x∈Q,Pair x):rH [.lst (Q.map tupK)]=.ok (Ka (bO Q)):=by
 have e:rise Q=bO Q:=(jW.rise hp).ext (.sort hp nd) fun x=>by rw[Xp,gR]
 have run:vN (aU ["cells"] [.lst (Q.map tupK)])=.rt (Ka (bO Q)):=by unfold vN;rw[<- e];exact eF (cG (ao (abf (aC rfl) (by omega) fun ks hk=>(hp ks hk).ne) aL) rfl)
 unfold rH;rw[run];rfl
noncomputable abbrev RF(C:Sl)(kvs:List (List Int×D))(c:Sl)(fs:List D)(Q:KL)(p:Sl)(a7 a8 a9:Sl):aD:=[C,.fz (.bl false),.od kvs,c,.ow fs,.ow (Q.map tupK),p,a7,a8,a9]
theorem abx{P:List Int->Prop}{f:List Int}{kvs:List (List Int×D)}{Q:KL}(h:Bf P f kvs Q)(lQ:Q.length<=1000){p:Nat}{x:List Int}(hp:Q[p]?=some x)(px:Pair x){r c:Int}(hr:-1<=r/\r<=1)(hc:-1<=c/\c<=1){C c3 a9:Sl}{fs:List D} :
  ∃kvs' Q' b9,jK (RF C kvs c3 fs Q (.fz (.int p)) (.fz (.int r)) (.fz (.int c)) a9)=.nx (RF C kvs' c3 fs Q' (.fz (.int p)) (.fz (.int r)) (.fz (.int c)) b9)/\Bf P f kvs' Q'/\(∃E,Q'=Q++E)/\(P [c0 x + r,c1 x + c]->[c0 x + r,c1 x + c]∈Q'):=by
 have hx:x∈Q:=i7 hp;have l:=h.gb.le;obtain⟨u,v,rfl⟩:=px;have e0:c0 [u,v]=u:=rfl;have e1:c1 [u,v]=v:=rfl;rw[e0,e1];have ha:Ad [u,v] [u + r,v + c]:=⟨⟨_,_,rfl⟩,by show-1<=(u + r) - u/\(u + r) - u<=1;omega,by show-1<=(v + c) - v/\(v + c) - v<=1;omega⟩
 have st:iB 9 (xJ 5 (fA (aj (aQ bH (aQ cN (aQ cN (aq 5) (aq 6)) (fC (.int 0))) (aq 7)) (aj (aQ bH (aQ cN (aQ cN (aq 5) (aq 6)) (fC (.int 1))) (aq 8)) aK)) cU)) (RF C kvs c3 fs Q (.fz (.int p)) (.fz (.int r)) (.fz (.int c)) a9)=.nx (RF C kvs c3 fs Q (.fz (.int p)) (.fz (.int r)) (.fz (.int c)) (.fz (tupK [u + r,v + c]))) :=
  ig (Nh rfl (cG (ao (aN (aN (aN (aC rfl) (aC rfl) (Ni hp)) bG rfl) (aC rfl) cC) (ao (aN (aN (aN (aC rfl) (aC rfl) (Ni hp)) bG rfl) (aC rfl) cC) aL)) (t2 _ _)) (Ay [u + r,v + c]))
 generalize [u + r,v + c]=y at *;have t:fT (jP 2 (aq 9)) (RF C kvs c3 fs Q (.fz (.int p)) (.fz (.int r)) (.fz (.int c)) (.fz (tupK y)))=.ok (decide (y∈ji kvs)):=je (qb rfl (aC rfl));have n:tY (sW (fT (aq 1)) (fT (aQ Bp (aQ dZ (aq 7) (aq 8)) (fC (.int 0))))) (RF C kvs c3 fs Q (.fz (.int p)) (.fz (.int r)) (.fz (.int c)) (.fz (tupK y)))=.ok true:=yX (t:=false) (rY (je (aC rfl)));unfold jK;by_cases k:y∈ji kvs
 ·rw[decide_eq_true k]at t;refine⟨jB kvs y,Q++[y],.fz (tupK y),aJ st (eE (rZ t n) ?_),h.add hx ha k,⟨[y],rfl⟩,fun _=>fw _ (.head _)⟩;refine aJ (ρ1:=RF C (jB kvs y) c3 fs Q (.fz (.int p)) (.fz (.int r)) (.fz (.int c)) (.fz (tupK y))) (Ng rfl (aC rfl) (by omega) k) ?_;show _=Ou.nx [C,.fz (.bl false),.od (jB kvs y),c3,.ow fs,.ow ((Q++[y]).map tupK),.fz (.int p),.fz (.int r),.fz (.int c),.fz (tupK y)];rw[iL];exact acp rfl (aC rfl) (by omega)
 ·rw[decide_eq_false k]at t;exact⟨kvs,Q,.fz (tupK y),aJ st (bQ (rY t) gk),h,⟨[],(dP _).symm⟩,fun q=>((h.uni y).mp q).resolve_left k⟩
theorem Qp{Q E:KL}{p:Nat}{x:List Int}(h:Q[p]?=some x):(Q++E)[p]?=some x:=by rw[eT (dm.mp h).1];exact h
theorem YC{P:List Int->Prop}{f:List Int}{A:KL}(hP:∀x,P x->x∈A)(lA:A.length<=100){p:Nat}{x:List Int}(px:Pair x){r:Int}(hr:-1<=r/\r<=1){C c3:Sl}{fs:List D}:∀(cs:List Int) (kvs:List (List Int×D)) (Q:KL) (a8 a9:Sl),Bf P f kvs Q->Q[p]?=some x->(∀c∈cs,-1<=c/\c<=1) ->
  ∃(kvs':List (List Int×D)) (Q':KL) (b8 b9:Sl),dw (aM 8) jK (cs.map D.int) (RF C kvs c3 fs Q (.fz (.int p)) (.fz (.int r)) a8 a9)=.nx (RF C kvs' c3 fs Q' (.fz (.int p)) (.fz (.int r)) b8 b9)/\Bf P f kvs' Q'/\(∃E,Q'=Q++E)/\∀c∈cs,P [c0 x + r,c1 x + c]->[c0 x + r,c1 x + c]∈Q'
 | [],kvs,Q,a8,a9,h,_,_=>⟨kvs,Q,a8,a9,rfl,h,⟨[],(dP _).symm⟩,fun y hy=>nomatch hy⟩
 |c::cs,kvs,Q,a8,a9,h,hp,hc=>by
  have lQ:=h.len hP;obtain⟨k1,Q1,b9,e1,h1,⟨E1,hE1⟩,m1⟩:=abx h (by omega) hp px hr (hc c (.head _)) (C:=C) (c3:=c3) (a9:=a9) (fs:=fs);obtain⟨k2,Q2,b8,c9,e2,h2,⟨E2,hE2⟩,m2⟩:=YC hP lA px hr (C:=C) (c3:=c3) (fs:=fs) cs k1 Q1 (.fz (.int c)) b9 h1 (by rw[hE1];exact Qp hp) (fun z hz=>hc z (.tail _ hz));refine⟨k2,Q2,b8,c9,?_,h2,⟨E1++E2,by rw[hE2,hE1,eP]⟩,fun z hz q=>?_⟩
  ·rw[bX];exact bI rfl e1 e2
  ·rcases cm.mp hz with rfl|hz
   ·rw[hE2];exact g7 _ (m1 q)
   ·exact m2 z hz q
noncomputable abbrev tr3:aD->Rs D:=fA (aj (yW (fC (.int 1))) (aj (fC (.int 0)) (aj (fC (.int 1)) aK))) cU
theorem YD(ρ:aD):tr3 ρ=.ok (.tup ([-1,0,1].map D.int)):=cG (ao (Vg bG) (ao bG (ao bG aL))) (xr (by simp))
theorem in3:∀c∈([-1,0,1]:List Int),-1<=c/\c<=1:=by decide
theorem Qq{P:List Int->Prop}{f:List Int}{A:KL}(hP:∀x,P x->x∈A)(lA:A.length<=100){p:Nat}{x:List Int}(px:Pair x){C c3:Sl}{fs:List D}:∀(rs:List Int) (kvs:List (List Int×D)) (Q:KL) (a7 a8 a9:Sl),Bf P f kvs Q->Q[p]?=some x->(∀c∈rs,-1<=c/\c<=1) ->
  ∃(kvs':List (List Int×D)) (Q':KL) (b7 b8 b9:Sl),dw (aM 7) jL (rs.map D.int) (RF C kvs c3 fs Q (.fz (.int p)) a7 a8 a9)=.nx (RF C kvs' c3 fs Q' (.fz (.int p)) b7 b8 b9)/\Bf P f kvs' Q'/\(∃E,Q'=Q++E)/\∀r∈rs,∀c∈([-1,0,1]:List Int),P [c0 x + r,c1 x + c]->[c0 x + r,c1 x + c]∈Q'
 | [],kvs,Q,a7,a8,a9,h,_,_=>⟨kvs,Q,a7,a8,a9,rfl,h,⟨[],(dP _).symm⟩,fun y hy=>nomatch hy⟩
 |r::rs,kvs,Q,a7,a8,a9,h,hp,hr=>by
  obtain⟨k1,Q1,b8,b9,e1,h1,⟨E1,hE1⟩,m1⟩:=YC hP lA px (hr r (.head _)) (p:=p) (C:=C) (c3:=c3) (fs:=fs) [-1,0,1] kvs Q a8 a9 h hp in3;have st:jL (RF C kvs c3 fs Q (.fz (.int p)) (.fz (.int r)) a8 a9)=.nx (RF C k1 c3 fs Q1 (.fz (.int p)) (.fz (.int r)) b8 b9):=by unfold jL;exact KH (YD _) e1
  obtain⟨k2,Q2,b7,c8,c9,e2,h2,⟨E2,hE2⟩,m2⟩:=Qq hP lA px (C:=C) (c3:=c3) (fs:=fs) rs k1 Q1 (.fz (.int r)) b8 b9 h1 (by rw[hE1];exact Qp hp) (fun z hz=>hr z (.tail _ hz));refine⟨k2,Q2,b7,c8,c9,?_,h2,⟨E1++E2,by rw[hE2,hE1,eP]⟩,fun z hz c hc q=>?_⟩
  ·rw[bX];exact bI rfl st e2
  ·rcases cm.mp hz with rfl|hz
   ·rw[hE2];exact g7 _ (m1 c hc q)
   ·exact m2 z hz c hc q
theorem aby{P:List Int->Prop}{f:List Int}{A:KL}(hP:∀x,P x->x∈A)(lA:A.length<=100)(pr:∀x∈A,Pair x){kvs:List (List Int×D)}{Q:KL}(h:Bf P f kvs Q){p:Nat}{x:List Int}(hp:Q[p]?=some x)(c:Cl P Q p){C c3 a7 a8 a9:Sl}{fs:List D} :
  ∃(kvs':List (List Int×D)) (Q':KL) (b7 b8 b9:Sl),jM (RF C kvs c3 fs Q (.fz (.int p)) a7 a8 a9)=.nx (RF C kvs' c3 fs Q' (.fz (.int ((p + 1:Nat):Int))) b7 b8 b9)/\Bf P f kvs' Q'/\Cl P Q' (p + 1)/\Q.length<=Q'.length:=by
 have hx:x∈Q:=i7 hp;have hxA:=hP x ((h.uni x).mpr (.inr hx));obtain⟨k1,Q1,b7,b8,b9,e1,h1,⟨E,hE⟩,m⟩:=Qq hP lA (pr x hxA) (p:=p) (C:=C) (c3:=c3) (fs:=fs) [-1,0,1] kvs Q a7 a8 a9 h hp in3;refine⟨k1,Q1,b7,b8,b9,?_,h1,?_,by rw[hE,dn];omega⟩
 ·unfold jM;refine aJ (KH (YD _) e1) ?_;exact ig (aN (aC rfl) bG cC)
 ·rw[hE];refine c.next hp fun y ha py=>?_;rw[<- hE];obtain⟨⟨u,v,rfl⟩,⟨g1,g2⟩,g3,g4⟩:=ha;have e0:c0 [u,v]=u:=rfl;have e1':c1 [u,v]=v:=rfl;rw[e0]at g1 g2;rw[e1']at g3 g4;have ey:[u,v]=[c0 x + (u - c0 x),c1 x + (v - c1 x)]:=by rw[show c0 x + (u - c0 x)=u by omega,show c1 x + (v - c1 x)=v by omega]
  have i3:∀z:Int,-1<=z->z<=1->z∈([-1,0,1]:List Int):=fun z h1 h2=>by
   have:z=-1∨z=0∨z=1:=by omega
   rcases this with rfl|rfl|rfl <;> simp
  rw[ey]at py ⊢;exact m _ (i3 _ g1 g2) _ (i3 _ g3 g4) py
theorem acz{P:List Int->Prop}{f:List Int}{A:KL}(hP:∀x,P x->x∈A)(lA:A.length<=100)(pr:∀x∈A,Pair x){C c3:Sl}{fs:List D}:∀(n p:Nat) (kvs:List (List Int×D)) (Q:KL) (a7 a8 a9:Sl),Bf P f kvs Q->Cl P Q p->p<=Q.length->A.length + 1<=n + p ->
  ∃(kvs':List (List Int×D)) (Q':KL) (p' b7 b8 b9:Sl),Sd (lJ 5 (fT (aQ gLt (aq 6) (fA (aj (aq 5) aK) mC)))) jM n (RF C kvs c3 fs Q (.fz (.int p)) a7 a8 a9)=.nx (RF C kvs' c3 fs Q' p' b7 b8 b9)/\Bf P f kvs' Q'/\Cl P Q' Q'.length
 | 0,p,kvs,Q,a7,a8,a9,h,c,hp,hl=>by have:=h.len hP;omega
 |n + 1,p,kvs,Q,a7,a8,a9,h,c,hp,hl=>by
  have t:lJ 5 (fT (aQ gLt (aq 6) (fA (aj (aq 5) aK) mC))) (RF C kvs c3 fs Q (.fz (.int p)) a7 a8 a9)=.ok (decide ((p:Int) < ((Q.map tupK).length:Int))):=yE rfl (je (aN (aC rfl) (cG (ao (aC rfl) aL) rfl) KJ));rw[cn]at t;by_cases e:p < Q.length
  ·rw[decide_eq_true (by omega)]at t;obtain⟨x,hx⟩:∃x,Q[p]?=some x:=⟨Q[p],d9 e⟩
   obtain⟨k1,Q1,b7,b8,b9,e1,h1,c1,l1⟩:=aby hP lA pr h hx c (C:=C) (c3:=c3) (a7:=a7) (a8:=a8) (a9:=a9) (fs:=fs);obtain⟨k2,Q2,p2,c7,c8,c9,e2,h2,c2⟩:=acz hP lA pr (C:=C) (c3:=c3) (fs:=fs) n (p + 1) k1 Q1 b7 b8 b9 h1 c1 (by omega) (by omega);refine⟨k2,Q2,p2,c7,c8,c9,?_,h2,c2⟩;unfold Sd;rw[t];dsimp only;rw[e1];exact e2
  ·rw[decide_eq_false (by omega)]at t;have ep:p=Q.length:=by omega
   refine⟨kvs,Q,.fz (.int p),a7,a8,a9,?_,h,by rw[ep]at c;exact c⟩;unfold Sd;rw[t]
theorem YF{ρ:aD}{i:Nat}{ds:List D}{d:D}{f:aD->Rs D}(hi:ρ[i]?=some (.ow ds))(hf:f ρ=.ok d)(hl:ds.length < 1000000):wL i f ρ=.nx (ρ.set i (.ow (ds++[d]))):=by unfold wL;rw[hi];dsimp only;rw[hf];show(if _ then _ else _)=_;rw[if_pos hl]
theorem YG{P:List Int->Prop}{A:KL}(hA:RM A)(hP:∀x,P x->x∈A){kvs:List (List Int×D)}(g:GC kvs 100)(hk:∀x,P x↔x∈ji kvs){f:List Int}(hf:f∈ji kvs){C a5 a6 a7 a8 a9:Sl}{fs:List D}(lf:fs.length<=1000) :
  ∃(kvs':List (List Int×D)) (Q:KL) (b5 b6 b7 b8 b9:Sl),eU [C,.fz (.bl false),.od kvs,.fz (tupK f),.ow fs,a5,a6,a7,a8,a9]=.nx [C,.fz (.bl false),.od kvs',.fz (tupK f),.ow (fs++[Ka (bO Q)]),b5,b6,b7,b8,b9]/\Bf P f kvs' Q/\Cl P Q Q.length:=by
 have l:=g.le;have la:=hA.le;obtain⟨k1,Q1,p1,b7,b8,b9,e1,h1,c1⟩:=acz hP hA.le hA.st.pr (C:=C) (c3:=.fz (tupK f)) (fs:=fs) 1000 0 (jB kvs f) [f] a7 a8 a9 (.start g hk hf) (fun i x hi=>absurd hi (Nat.not_lt_zero _)) (eJ _) (by omega);have lq:=h1.len hP;have pq:∀x∈Q1,Pair x:=fun x hx=>hA.st.pr x (hP x ((h1.uni x).mpr (.inr hx)));refine⟨k1,Q1,.ow (Q1.map tupK),p1,b7,b8,b9,?_,h1,c1⟩;have t:fT (jP 2 (aq 3)) [C,.fz (.bl false),.od kvs,.fz (tupK f),.ow fs,a5,a6,a7,a8,a9]=.ok true:=by rw[je (qb rfl (aC rfl)),decide_eq_true hf]
 unfold eU;refine eE t ?_;refine aJ (ρ1:=[C,.fz (.bl false),.od kvs,.fz (tupK f),.ow fs,.ow [tupK f],a6,a7,a8,a9]) rfl ?_;refine aJ (ρ1:=[C,.fz (.bl false),.od (jB kvs f),.fz (tupK f),.ow fs,.ow [tupK f],a6,a7,a8,a9]) (Ng rfl (aC rfl) (by omega) hf) ?_;refine aJ (ρ1:=RF C (jB kvs f) (.fz (tupK f)) fs [f] (.fz (.int 0)) a7 a8 a9) (ig bG) ?_;refine aJ e1 ?_;exact YF rfl (Nh rfl (cG (ao (cG (ao (aC rfl) aL) (Kc pq (by omega))) aL) rfl) (by show Jk (.tup ((bO Q1).map tupK))=true;simp only[Jk];exact Ds _)) (by omega)
theorem abz{kvs:List (List Int×D)}{f:List Int}(hf:f∉ji kvs){C a4 a5 a6 a7 a8 a9:Sl}:eU [C,.fz (.bl false),.od kvs,.fz (tupK f),a4,a5,a6,a7,a8,a9]=.nx [C,.fz (.bl false),.od kvs,.fz (tupK f),a4,a5,a6,a7,a8,a9]:=by
 have t:fT (jP 2 (aq 3)) [C,.fz (.bl false),.od kvs,.fz (tupK f),a4,a5,a6,a7,a8,a9]=.ok false:=by rw[je (qb rfl (aC rfl)),decide_eq_false hf]
 unfold eU;exact bQ t gk
theorem Gx{A:KL}(hA:RM A){C:Sl}:∀(T:KL) (P:List Int->Prop) (kvs:List (List Int×D)) (fs:List D) (a3 a5 a6 a7 a8 a9:Sl),(∀x,P x->x∈A)->GC kvs 100->(∀x,P x↔x∈ji kvs)->fs.length + T.length<=1000 ->
  ∃(kvs':List (List Int×D)) (b3 b5 b6 b7 b8 b9:Sl),dw (aM 3) eU (T.map tupK) [C,.fz (.bl false),.od kvs,a3,.ow fs,a5,a6,a7,a8,a9]=.nx [C,.fz (.bl false),.od kvs',b3,.ow (fs++(rws A T P).map Ka),b5,b6,b7,b8,b9]
 | [],P,kvs,fs,a3,a5,a6,a7,a8,a9,_,_,_,_=>⟨kvs,a3,a5,a6,a7,a8,a9,by rw[show rws A [] P=[] from rfl,gu,gu,dP];rfl⟩
 |f::T,P,kvs,fs,a3,a5,a6,a7,a8,a9,hP,g,hk,hl=>by
  rw[ck]at hl;by_cases hf:P f
  ·obtain⟨k1,Q,b5,b6,b7,b8,b9,e1,h,c⟩:=YG hA hP g hk ((hk f).mp hf) (C:=C) (a5:=a5) (a6:=a6) (a7:=a7) (a8:=a8) (a9:=a9) (fs:=fs) (by omega);obtain⟨k2,c3,c5,c6,c7,c8,c9,e2⟩:=Gx hA (C:=C) T (fun y=>P y/\¬Rc P f y) k1 (fs++[Ka (bO Q)]) (.fz (tupK f)) b5 b6 b7 b8 b9 (fun x hx=>hP x hx.1) h.gb (fun x=>(h.left c x).symm) (by rw[dn];simp only[ck,d4];omega);refine⟨k2,c3,c5,c6,c7,c8,c9,?_⟩;have er:rws A (f::T) P=bO Q::rws A T (fun y=>P y/\¬Rc P f y):=by
    conv=>lhs;unfold rws
    rw[if_pos hf,JX hA.st hP h c]
   rw[er,bX,bX];refine(bI rfl e1 e2).trans ?_;rw[eP];rfl
  ·obtain⟨k2,c3,c5,c6,c7,c8,c9,e2⟩:=Gx hA (C:=C) T P kvs fs (.fz (tupK f)) a5 a6 a7 a8 a9 hP g hk (by omega);refine⟨k2,c3,c5,c6,c7,c8,c9,?_⟩;have er:rws A (f::T) P=rws A T P:=by
    conv=>lhs;unfold rws
    rw[if_neg hf]
   rw[er,bX];exact bI rfl (abz fun z=>hf ((hk f).mpr z)) e2
theorem YH{A:KL}(hA:RM A):fY [.lst (A.map tupK),.bl false]=.ok (.lst ((rws A A (fun x=>x∈A)).map Ka)):=by
 have la:=hA.le;obtain⟨ρ1,e1,kvs,a3,rfl,km⟩:=zY (h:=aM 3) (g:=mW) tupK (fun done ρ=>∃kvs a3,ρ=[.fz (.lst (A.map tupK)),.fz (.bl false),.od kvs,a3,.no,.no,.no,.no,.no,.no]/\Km kvs done.length (fun k=>k∈done)) (L:=A) (ρ:=[.fz (.lst (A.map tupK)),.fz (.bl false),.od [],.no,.no,.no,.no,.no,.no,.no]) ⟨_,_,rfl,Km.nil.mono (bE _) (fun k=>by simp)⟩ (by
  rintro x done ρ hx hd ⟨kvs,a3,rfl,km⟩;obtain⟨u,v,rfl⟩:=hA.st.pr x hx;have l:=km.le;refine⟨_,[.fz (.lst (A.map tupK)),.fz (.bl false),.od (qQ kvs [u,v] (.bl true)),.fz (tupK [u,v]),.no,.no,.no,.no,.no,.no],rfl,?_,_,_,rfl,(km.put u v (.bl true) (M':=fun k=>k∈done++[[u,v]]) fun k=>by rw[dt,ie];exact or_comm).mono (by rw[dn];exact bE _) (fun k=>Iff.rfl)⟩;unfold mW;exact Qd (ks:=[u,v]) bG rfl (aC rfl) (by omega))
 have l:=km.le;obtain⟨k2,c3,c5,c6,c7,c8,c9,e2⟩:=Gx hA (C:=.fz (.lst (A.map tupK))) A (fun x=>x∈A) kvs [] a3 .no .no .no .no .no (fun x hx=>hx) ⟨km.gn,by omega,fun x hx=>hA.bd x ((km.iff x).mp hx)⟩ (fun x=>(km.iff x).symm) (by simp only[d4];omega);rw[ij]at e2;have run:lg (aU ["cells","sides_v","left","cell","found","part","at","row","column","near"] [.lst (A.map tupK),.bl false])=.rt (.lst ((rws A A (fun x=>x∈A)).map Ka)):=by unfold lg;refine aJ (ρ1:=[.fz (.lst (A.map tupK)),.fz (.bl false),.od [],.no,.no,.no,.no,.no,.no,.no]) rfl ?_;refine aJ (ni (uo (aC rfl) e1)) ?_;refine aJ (ρ1:=[.fz (.lst (A.map tupK)),.fz (.bl false),.od kvs,a3,.ow [],.no,.no,.no,.no,.no]) rfl ?_;refine aJ (ni (uo (cG (ao (aC rfl) aL) (Yx hA)) e2)) ?_;rfl
 unfold fY;rw[run];rfl
theorem ahF(x:List Int)(k:KL):RZ (tupK x) (k.map tupK)=decide (x∈k):=by
 unfold RZ
 induction k with
 |nil=>simp
 |cons y k ih =>
  rw[bX,rn,ih,vJ];by_cases h:y=x
  ·subst h;simp
  ·by_cases h2:x∈k <;> simp[h,h2,dE h]
theorem YJ(x:List Int)(k:KL):Ln (tupK x) (.lst (k.map tupK))=.ok (.bl (!decide (x∈k))):=by show Bx true _ _=_;simp only[Bx];rw[if_pos ⟨cx (mJ x) (by decide),cx (sJ k) (by decide)⟩];simp only[if_true,ahF]
theorem abA(L:KL):oE (.lst (L.map tupK)) (.lst [])=.ok (.bl (decide (L=[]))):=by
 have hd:gP (.lst (L.map tupK))<=8:=by have:=sJ L;simp only[gP];lia
 rw[aiO hd (by decide)];cases L <;> rfl
noncomputable def Dl(A:KL)(b:Bool)(x:List Int):Bool:=decide (x∈A) != b
theorem YK(A:KL)(b:Bool)(x:List Int):Bp (.bl (decide (x∈A))) (.bl b)=.ok (.bl (Dl A b x)):=by unfold Dl;cases decide (x∈A) <;> cases b <;> rfl
theorem YL(A:KL)(b:Bool)(x:List Int):vP [sh A b,tupK x]=.ok (.bl (Dl A b x)):=by
 have run:Qi (aU ["shape","cell"] [sh A b,tupK x])=.rt (.bl (Dl A b x)):=by unfold Qi;exact eF (aN (aN (aC rfl) (aN (aC rfl) bG rfl) (ahc x A)) (aN (aC rfl) bG rfl) (YK A b x))
 unfold vP;rw[run];rfl
theorem YM(A:KL)(b:Bool)(x:List Int):gM [sh A b,tupK x]=.ok (.bl (Dl A b x)):=by
 have run:pW (aU ["shape","cell"] [sh A b,tupK x])=.rt (.bl (Dl A b x)):=by unfold pW;exact eF (aN (aN (aC rfl) (aN (aC rfl) bG rfl) (ahc x A)) (aN (aC rfl) bG rfl) (YK A b x))
 unfold gM;rw[run];rfl
noncomputable def nr(A:KL)(b:Bool)(x:List Int):KL:=(nb x).filter (Dl A b)
theorem afm{x:List Int}(hx:Pair x):jW (sq x):=by
 obtain⟨a,b,rfl⟩:=hx;have e:sq [a,b]=[[a - 1,b - 1],[a - 1,b - 1 + 1],[a - 1,b - 1 + 2],[a,b - 1],[a,b - 1 + 1],[a,b - 1 + 2],[a + 1,b - 1],[a + 1,b - 1 + 1],[a + 1,b - 1 + 2]]:=rfl;rw[e];refine⟨fun y hy=>?_,?_⟩
 ·simp only[cm,f9,or_false]at hy;rcases hy with rfl|rfl|rfl|rfl|rfl|rfl|rfl|rfl|rfl <;> exact⟨_,_,rfl⟩
 ·have k:∀a b c d:Int,(a < c∨(a=c/\b < d))->Mu [a,b] [c,d]:=fun _ _ _ _ h=>h;simp only[f7,cm,f9,or_false,forall_eq_or_imp,forall_eq,nN.nil,and_true,false_implies,implies_true]
  repeat' apply And.intro
  all_goals first|trivial|(refine k _ _ _ _ ?_;omega)
theorem Np{A:KL}{b:Bool}{x:List Int}(hx:Pair x)(hb:Bk x):RM (nr A b x):=by
 refine⟨((afm hx).filter _).filter _,?_,fun y hy=>?_⟩
 ·unfold nr nb;refine cx (iO _ _) (cx (iO _ _) ?_);simp[sq,tE]
 ·obtain⟨_,⟨h1,h2⟩,h3,h4⟩:=acv (fm.mp hy).1;unfold Bk at hb;unfold Bd;omega
theorem afn{A:KL}{b:Bool}{x:List Int}:(nr A b x).length<=9:=by unfold nr nb;refine cx (iO _ _) (cx (iO _ _) ?_);simp[sq,tE]
theorem YQ{A:KL}{b:Bool}{x:List Int}(hx:Pair x)(hb:Bk x):cR [sh A b,tupK x]=.ok (.lst ((nr A b x).map tupK)):=by
 have run:iY (aU ["shape","cell"] [sh A b,tupK x])=.rt (.lst ((nr A b x).map tupK)):=by
  unfold iY;refine eF ?_;refine mj (cs:=[.fz (sh A b)]) rfl (v_l (cG (ao (aC rfl) aL) (bL rfl (ahD hx hb.bd))) rfl) (fun k hk=>?_) (fun k hk=>rfl) ?_
  ·unfold nA;exact je (cG (ao (aC rfl) (ao (aC rfl) aL)) (bL rfl (YL A b k)))
  ·refine cx (iO _ _) ?_;simp[sq,tE]
 unfold cR;rw[run];rfl
noncomputable def sd(x:List Int):KL:=[[c0 x - 1,c1 x],[c0 x,c1 x - 1],[c0 x,c1 x + 1],[c0 x + 1,c1 x]]
theorem abB{x:List Int}(hx:Pair x):sU [tupK x]=.ok (.lst ((sd x).map tupK)):=by
 obtain⟨a,b,rfl⟩:=hx;have run:yw (aU ["cell","row","column"] [tupK [a,b]])=.rt (.lst ((sd [a,b]).map tupK)):=by unfold yw;refine aJ (ρ1:=[.fz (tupK [a,b]),.fz (.int a),.no]) (ig (aN (aC rfl) bG rfl)) ?_;refine aJ (ρ1:=[.fz (tupK [a,b]),.fz (.int a),.fz (.int b)]) (ig (aN (aC rfl) bG rfl)) ?_;exact eF (cG (ao (cG (ao (aN (aC rfl) bG jO) (ao (aC rfl) aL)) (t2 _ _)) (ao (cG (ao (aC rfl) (ao (aN (aC rfl) bG jO) aL)) (t2 _ _)) (ao (cG (ao (aC rfl) (ao (aN (aC rfl) bG cC) aL)) (t2 _ _)) (ao (cG (ao (aN (aC rfl) bG cC) (ao (aC rfl) aL)) (t2 _ _)) aL)))) (HD (by simp)))
 unfold sU;rw[run];rfl
noncomputable def vV(N:KL)(x:List Int):KL:=(sd x).filter fun y=>!decide (y∈N)
noncomputable def rl (N:KL):Nat:=(rws N N (fun x=>x∈N)).length
noncomputable def Sg{α:Type}:List α->Bool
 | []=>true
 |_=>false
noncomputable def lo (N:KL) (x:List Int):Bool:=!Sg N && (!Sg (vV N x) && !decide (1 < rl N))
theorem ahG{α:Type}(l:List α):decide ((l.length:Int)=0)=Sg l:=by
 cases l with
 |nil=>rfl
 |cons a l=>rw[ck];exact decide_eq_false (by omega)
theorem afo{N:KL}(h:N≠[]):0 < rl N:=by
 unfold rl;cases N with
 |nil=>exact absurd rfl h
 |cons x N =>
  conv=>rhs;unfold rws
  rw[if_pos (show(fun z=>z∈x::N) x from List.Mem.head _)];simp
theorem gt1(n:Nat):QW (.int (n:Nat)) (.int 1)=.ok (.bl (decide (1 < n))):=by rw[Et];exact congrArg (fun z=>Rs.ok (D.bl z)) (decide_eq_decide.mpr (by omega))
theorem Qs{N:KL}(hN:RM N){x:List Int}(hx:Pair x):∃(w:Str) (ds:List D),gJ [tupK x,.lst (N.map tupK)]=.ok (.tup (.str w::ds))/\oE (.str w) (.str "loose")=.ok (.bl (lo N x)):=by
 have l1:aQ oE (fA (aj (aq 1) aK) mC) (fC (.int 0)) [.fz (tupK x),.fz (.lst (N.map tupK)),.no,.no]=.ok (.bl (Sg N)):=by refine aN (cG (ao (aC rfl) aL) nR) bG ?_;rw[cn,nq,ahG]
 have cp:dW (aM 0) pR vO 1 [1] (fL (fA (aj (aq 0) aK) (bf 1 sU)) Zf) [.fz (tupK x),.fz (.lst (N.map tupK)),.no,.no]=.ok (.lst ((vV N x).map tupK)):=by refine mj (cs:=[.fz (.lst (N.map tupK))]) rfl (v_l (cG (ao (aC rfl) aL) (bL rfl (abB hx))) rfl) (fun k hk=>?_) (fun k hk=>rfl) (by simp[sd]);unfold pR;exact je (aN (aC rfl) (aC rfl) (YJ k N))
 have l2:aQ oE (fA (aj (aq 2) aK) mC) (fC (.int 0)) [.fz (tupK x),.fz (.lst (N.map tupK)),.fz (.lst ((vV N x).map tupK)),.no]=.ok (.bl (Sg (vV N x))):=by refine aN (cG (ao (aC rfl) aL) nR) bG ?_;rw[cn,nq,ahG]
 obtain⟨Dt,e1,r1,q1⟩:=Yz hN;have lc:Dt.length=rl N:=by have:=congrArg ip r1;rw[cn]at this;exact this
 have l3:aQ QW (fA (aj (aq 3) aK) mC) (fC (.int 1)) [.fz (tupK x),.fz (.lst (N.map tupK)),.fz (.lst ((vV N x).map tupK)),.fz (.lst (Dt.map fun Q=>.lst (Q.map tupK)))]=.ok (.bl (decide (1 < rl N))):=by refine aN (cG (ao (aC rfl) aL) nR) bG ?_;rw[cn,lc,gt1]
 have done:∀(d:D),jg (aU ["cell","there","lacking","together"] [tupK x,.lst (N.map tupK)])=.rt d->gJ [tupK x,.lst (N.map tupK)]=.ok d:=fun d h=>by unfold gJ;rw[h];rfl
 cases c1:Sg N with
 |true =>
  rw[c1]at l1;refine⟨"alone",[],done _ ?_,?_⟩
  ·unfold jg;exact qN (eE (je l1) (eF (cG (ao bG aL) (xr (by simp)))))
  ·unfold lo;rw[c1];rfl
 |false =>
  rw[c1]at l1;have ne:N≠[]:=fun e=>by rw[e]at c1;cases c1
  cases c2:Sg (vV N x) with
  |true =>
   rw[c2]at l2;refine⟨"inner",[],done _ ?_,?_⟩
   ·unfold jg;refine aJ (bQ (je l1) gk) ?_;refine aJ (ig cp) ?_;exact qN (eE (je l2) (eF (cG (ao bG aL) (xr (by simp)))))
   ·unfold lo;rw[c1,c2];rfl
  |false =>
   rw[c2]at l2;have p:=afo ne;rw[<- lc]at p;obtain⟨Q,R,hQ⟩:∃Q R,Dt=Q::R:=by
    cases Dt with
    |nil=>exact absurd p (f_ _)
    |cons Q R=>exact⟨Q,R,rfl⟩
   obtain⟨n1,n2,n3⟩:=q1 Q (by rw[hQ];exact .head _);have i1:cN (.lst (Dt.map fun Q=>.lst (Q.map tupK))) (.int 0)=.ok (.lst (Q.map tupK)):=by rw[hQ];exact uY vH
   cases c3:decide (1 < rl N) with
   |true =>
    rw[c3]at l3;refine⟨"bridge",[Ka (bO Q)],done _ ?_,?_⟩
    ·unfold jg;refine aJ (bQ (je l1) gk) ?_;refine aJ (ig cp) ?_;refine aJ (bQ (je l2) gk) ?_;refine aJ (ig (cG (ao (aC rfl) (ao bG aL)) (bL rfl e1))) ?_;exact qN (eE (je l3) (eF (cG (ao bG (ao (cG (ao (aN (aC rfl) bG i1) aL) (bL rfl (YB n1 n2 n3))) aL)) (xr (by simp)))))
    ·unfold lo;rw[c1,c2,c3];rfl
   |false =>
    rw[c3]at l3;obtain⟨y,M,hM⟩:∃y M,vV N x=y::M:=by
     cases e:vV N x with
     |nil=>rw[e]at c2;cases c2
     |cons y M=>exact⟨y,M,rfl⟩
    have i2:cN (.lst ((vV N x).map tupK)) (.int 0)=.ok (tupK y):=by rw[hM];exact uY vH
    refine⟨"loose",[.lst (Q.map tupK),tupK y],done _ ?_,?_⟩
    ·unfold jg;refine aJ (bQ (je l1) gk) ?_;refine aJ (ig cp) ?_;refine aJ (bQ (je l2) gk) ?_;refine aJ (ig (cG (ao (aC rfl) (ao bG aL)) (bL rfl e1))) ?_;refine aJ (bQ (je l3) gk) ?_;exact eF (cG (ao bG (ao (aN (aC rfl) bG i1) (ao (aN (aC rfl) bG i2) aL))) (xr (by simp)))
    ·unfold lo;rw[c1,c2,c3];rfl
theorem Az{A:KL}{b:Bool}{x:List Int}(hx:Pair x)(hb:Bk x)(h:Dl A b x=true):jh [sh A b,tupK x]=.ok (.bl (lo (nr A b x) x)):=by
 obtain⟨w,ds,e1,e2⟩:=Qs (Np (A:=A) (b:=b) hx hb) hx;have e3:lD [sh A b,tupK x]=.ok (.tup (.str w::ds)):=by
  have t:=YL A b x;rw[h]at t;have run:nC (aU ["shape","cell"] [sh A b,tupK x])=.rt (.tup (.str w::ds)):=by unfold nC;refine aJ (bQ (yX (t:=true) (je (cG (ao (aC rfl) (ao (aC rfl) aL)) (bL rfl t)))) gk) ?_;exact eF (cG (ao (aC rfl) (ao (cG (ao (aC rfl) (ao (aC rfl) aL)) (bL rfl (YQ hx hb))) aL)) (bL rfl e1))
  unfold lD;rw[run];rfl
 have i0:cN (.tup (.str w::ds)) (.int 0)=.ok (.str w):=aed vH;have run:pU (aU ["shape","cell"] [sh A b,tupK x])=.rt (.bl (lo (nr A b x) x)):=by unfold pU;exact eF (aN (aN (cG (ao (aC rfl) (ao (aC rfl) aL)) (bL rfl e3)) bG i0) bG e2)
 unfold jh;rw[run];rfl
theorem Nq{A:KL}{b:Bool}{x:List Int}(hx:Pair x)(hb:Bk x)(h:Dl A b x=false):mV [sh A b,tupK x]=.ok (.bl (lo (nr A b x) x)):=by
 obtain⟨w,ds,e1,e2⟩:=Qs (Np (A:=A) (b:=b) hx hb) hx;have i0:cN (.tup (.str w::ds)) (.int 0)=.ok (.str w):=aed vH;have e3:mU [tupK x,.lst ((nr A b x).map tupK)]=.ok (.bl (lo (nr A b x) x)):=by
  have run:pX (aU ["cell","there"] [tupK x,.lst ((nr A b x).map tupK)])=.rt (.bl (lo (nr A b x) x)):=by unfold pX;exact eF (aN (aN (cG (ao (aC rfl) (ao (aC rfl) aL)) (bL rfl e1)) bG i0) bG e2)
  unfold mU;rw[run];rfl
 have t:=YL A b x;rw[h]at t;have run:pY (aU ["shape","cell"] [sh A b,tupK x])=.rt (.bl (lo (nr A b x) x)):=by unfold pY;refine aJ (bQ (je (cG (ao (aC rfl) (ao (aC rfl) aL)) (bL rfl t))) gk) ?_;exact eF (cG (ao (aC rfl) (ao (cG (ao (aC rfl) (ao (aC rfl) aL)) (bL rfl (YQ hx hb))) aL)) (bL rfl e3))
 unfold mV;rw[run];rfl
theorem Ca{A:KL}(hp:∀x∈A,Pair x/\Bk x)(hl:A.length<=1000):dU [sh A false]=.ok ((A.filter fun x=>lo (nr A false x) x).map tupK):=by
 have cp:dW (aM 0) lK qm 1 [0] (fL (aQ cN (aq 0) (fC (.int 0))) asT) [.fz (sh A false)]=.ok (.lst ((A.filter fun x=>lo (nr A false x) x).map tupK)):=by refine mj (cs:=[.fz (sh A false)]) rfl (v_l (aN (aC rfl) bG rfl) rfl) (fun k hk=>?_) (fun k hk=>rfl) hl;unfold lK;exact je (cG (ao (aC rfl) (ao (aC rfl) aL)) (bL rfl (Az (hp k hk).1 (hp k hk).2 (by unfold Dl;rw[decide_eq_true hk];rfl))))
 have run:kY (aU ["shape"] [sh A false])=.rl ((A.filter fun x=>lo (nr A false x) x).map tupK):=by unfold kY;refine aJ (ρ1:=[.fz (sh A false)]) (agI (cG (ao (aC rfl) aL) (bL rfl (show jF [sh A false]=.ok .non from rfl)))) ?_;unfold Aa;rw[cp]
 unfold dU;rw[run];rfl
noncomputable abbrev ar(A:KL)(b:Bool)(x y:List Int):Bool:=!decide (y=x) && Dl A b y
theorem Ba{A:KL}{b:Bool}{x:List Int}{r:Int}:∀(cs:List Int) (acc:KL) (a4:Sl),acc.length + cs.length<=100 ->
  ∃b4,dw (aM 4) jH (cs.map D.int) [.fz (sh A b),.fz (tupK x),.ow (acc.map tupK),.fz (.int r),a4]=.nx [.fz (sh A b),.fz (tupK x),.ow ((acc++(cs.map fun c=>[r,c]).filter (ar A b x)).map tupK),.fz (.int r),b4]
 | [],acc,a4,_=>⟨a4,by rw[gu,gu,o4,dP];rfl⟩
 |c::cs,acc,a4,hl=>by
  rw[ck]at hl;have n1:Bp (tupK [r,c]) (tupK x)=.ok (.bl (!decide ([r,c]=x))):=by rw[aec (cx (mJ _) (by decide)) (cx (mJ _) (by decide)),vJ]
  have t1:fT (aQ Bp (fA (aj (aq 3) (aj (aq 4) aK)) cU) (aq 1)) [.fz (sh A b),.fz (tupK x),.ow (acc.map tupK),.fz (.int r),.fz (.int c)]=.ok (!decide ([r,c]=x)):=je (aN (cG (ao (aC rfl) (ao (aC rfl) aL)) (t2 _ _)) (aC rfl) n1);have t3:fT (fA (aj (aq 0) (aj (fA (aj (aq 3) (aj (aq 4) aK)) cU) aK)) (bf 2 gM)) [.fz (sh A b),.fz (tupK x),.ow (acc.map tupK),.fz (.int r),.fz (.int c)]=.ok (Dl A b [r,c]):=je (cG (ao (aC rfl) (ao (cG (ao (aC rfl) (ao (aC rfl) aL)) (t2 _ _)) aL)) (bL rfl (YM A b [r,c])));have st:jH [.fz (sh A b),.fz (tupK x),.ow (acc.map tupK),.fz (.int r),.fz (.int c)]=.nx [.fz (sh A b),.fz (tupK x),.ow ((acc++[[r,c]].filter (ar A b x)).map tupK),.fz (.int r),.fz (.int c)]:=by
   have ea:ar A b x [r,c]=(!decide ([r,c]=x) && Dl A b [r,c]):=rfl;unfold jH;rw[eD,o4,ea];cases h1:!decide ([r,c]=x) with
   |false =>
    rw[h1]at t1;refine(bQ (rY t1) gk).trans ?_;rw[sm,if_neg (by decide),dP]
   |true =>
    rw[h1]at t1;cases h2:Dl A b [r,c] with
    |false =>
     rw[h2]at t3;refine(bQ (rZ t1 t3) gk).trans ?_;rw[Bool.true_and,if_neg (by decide),dP]
    |true =>
     rw[h2]at t3;refine(eE (rZ t1 t3) (YF rfl (cG (ao (aC rfl) (ao (aC rfl) aL)) (t2 _ _)) (by rw[cn];omega))).trans ?_;rw[Bool.true_and,if_pos rfl,iL];rfl
  obtain⟨b4,e2⟩:=Ba (A:=A) (b:=b) (x:=x) (r:=r) cs (acc++[[r,c]].filter (ar A b x)) (.fz (.int c)) (by
   rw[dn];have:=iO (ar A b x) [[r,c]];simp only[ck,d4]at this;omega)
  refine⟨b4,?_⟩;rw[bX];refine(bI rfl st e2).trans ?_;rw[eP,<- w8];rfl
theorem uN{A:KL}{b:Bool}{u v:Int}(hv:-1100000000000<=v/\v<=1100000000000){r:Int}{acc:KL}{a4:Sl}(hl:acc.length<=90) :
  ∃b4,jJ [.fz (sh A b),.fz (tupK [u,v]),.ow (acc.map tupK),.fz (.int r),a4]=.nx [.fz (sh A b),.fz (tupK [u,v]),.ow ((acc++(tE r (v - 1)).filter (ar A b [u,v])).map tupK),.fz (.int r),b4]:=by
 obtain⟨b4,e⟩:=Ba (A:=A) (b:=b) (x:=[u,v]) (r:=r) [v - 1,v - 1 + 1,v - 1 + 2] acc a4 (by simp only[ck,d4];omega);refine⟨b4,?_⟩;have e2:v + 2=(v - 1) + 3:=by omega
 unfold jJ qI;rw[show aj (aQ jQ (aQ cN (aq 1) (fC (.int 1))) (fC (.int 1))) (aj (aQ bH (aQ cN (aq 1) (fC (.int 1))) (fC (.int 2))) aK) [.fz (sh A b),.fz (tupK [u,v]),.ow (acc.map tupK),.fz (.int r),a4]=.ok [.int (v - 1),.int (v + 2)] from ao (aN (aN (aC rfl) bG rfl) bG jO) (ao (aN (aN (aC rfl) bG rfl) bG cC) aL),e2];simp only[Jo];rw[if_pos ⟨by omega,by omega,by omega,by omega⟩,show((v - 1 + 3) - (v - 1)).toNat=3 by omega,r3];exact e
theorem YT{A:KL}{b:Bool}{x:List Int}(hx:Pair x)(hb:Bd x):fX [sh A b,tupK x]=.ok (.lst ((nr A b x).map tupK)):=by
 obtain⟨u,v,rfl⟩:=hx;obtain⟨b1,b2,b3,b4⟩:=hb;have e0:c0 [u,v]=u:=rfl;have e1:c1 [u,v]=v:=rfl;rw[e0]at b1 b2;rw[e1]at b3 b4;have e2:u + 2=(u - 1) + 3:=by omega
 have lf:∀(r c:Int),((tE r c).filter (ar A b [u,v])).length<=3:=fun r c=>iO _ _;obtain⟨q1,k1⟩:=uN (A:=A) (b:=b) (u:=u) (v:=v) ⟨b3,b4⟩ (r:=u - 1) (acc:=[]) (a4:=.no) (by simp);have l1:=lf (u - 1) (v - 1);obtain⟨q2,k2⟩:=uN (A:=A) (b:=b) (u:=u) (v:=v) ⟨b3,b4⟩ (r:=u) (acc:=[]++(tE (u - 1) (v - 1)).filter (ar A b [u,v])) (a4:=q1) (by rw[ij];omega);have l2:=lf u (v - 1);obtain⟨q3,k3⟩:=uN (A:=A) (b:=b) (u:=u) (v:=v) ⟨b3,b4⟩ (r:=u + 1) (acc:=([]++(tE (u - 1) (v - 1)).filter (ar A b [u,v]))++(tE u (v - 1)).filter (ar A b [u,v])) (a4:=q2) (by rw[ij,dn];omega);have en:(([]++(tE (u - 1) (v - 1)).filter (ar A b [u,v]))++(tE u (v - 1)).filter (ar A b [u,v]))++(tE (u + 1) (v - 1)).filter (ar A b [u,v])=nr A b [u,v]:=by rw[ij,<- w8,<- w8,eP];unfold nr nb;rw[w9];refine congrArg (fun t=>iP t (sq [u,v])) (funext fun y=>?_);exact Bool.and_comm _ _
 have lp:dw (aM 3) jJ [.int (u - 1),.int (u - 1 + 1),.int (u - 1 + 2)] [.fz (sh A b),.fz (tupK [u,v]),.ow [],.no,.no]=.nx [.fz (sh A b),.fz (tupK [u,v]),.ow ((nr A b [u,v]).map tupK),.fz (.int (u + 1)),q3]:=by refine bI (ρ1:=[.fz (sh A b),.fz (tupK [u,v]),.ow (([]:KL).map tupK),.fz (.int (u - 1)),.no]) rfl k1 ?_;rw[show u - 1 + 1=u by omega,show u - 1 + 2=u + 1 by omega];refine bI (ρ1:=[.fz (sh A b),.fz (tupK [u,v]),.ow (([]++(tE (u - 1) (v - 1)).filter (ar A b [u,v])).map tupK),.fz (.int u),q1]) rfl k2 ?_;refine bI (ρ1:=[.fz (sh A b),.fz (tupK [u,v]),.ow ((([]++(tE (u - 1) (v - 1)).filter (ar A b [u,v]))++(tE u (v - 1)).filter (ar A b [u,v])).map tupK),.fz (.int (u + 1)),q2]) rfl k3 ?_;rw[en];rfl
 have run:kZ (aU ["shape","cell","found","row","column"] [sh A b,tupK [u,v]])=.rt (.lst ((nr A b [u,v]).map tupK)):=by
  unfold kZ;refine aJ (ρ1:=[.fz (sh A b),.fz (tupK [u,v]),.ow [],.no,.no]) rfl ?_;refine aJ (ρ1:=[.fz (sh A b),.fz (tupK [u,v]),.ow ((nr A b [u,v]).map tupK),.fz (.int (u + 1)),q3]) (ni ?_) ?_
  ·unfold qI;rw[show aj (aQ jQ (aQ cN (aq 1) (fC (.int 0))) (fC (.int 1))) (aj (aQ bH (aQ cN (aq 1) (fC (.int 0))) (fC (.int 2))) aK) [.fz (sh A b),.fz (tupK [u,v]),.ow [],.no,.no]=.ok [.int (u - 1),.int (u + 2)] from ao (aN (aN (aC rfl) bG rfl) bG jO) (ao (aN (aN (aC rfl) bG rfl) bG cC) aL),e2];simp only[Jo];rw[if_pos ⟨by omega,by omega,by omega,by omega⟩,show((u - 1 + 3) - (u - 1)).toNat=3 by omega,r3];exact lp
  ·rfl
 unfold fX;rw[run];rfl
noncomputable abbrev YW(x y:List Int):Bool:=decide (c0 y=c0 x) || decide (c1 y=c1 x)
theorem acA(u v:Int):(nb [u,v]).filter (YW [u,v])=sd [u,v]:=by
 have h1:v - 1 + 1=v:=by omega
 have h2:v - 1 + 2=v + 1:=by omega
 have e:sq [u,v]=[[u - 1,v - 1],[u - 1,v - 1 + 1],[u - 1,v - 1 + 2],[u,v - 1],[u,v - 1 + 1],[u,v - 1 + 2],[u + 1,v - 1],[u + 1,v - 1 + 1],[u + 1,v - 1 + 2]]:=rfl;have ne:∀a b:Int,(a≠u∨b≠v)->(!decide ([a,b]=[u,v]))=true:=fun a b h=>by rw[decide_eq_false (fun e=>by injection e with e1 e2;injection e2 with e2 _;omega)];rfl
 have eq:(!decide ([u,v]=[u,v]))=false:=by rw[decide_eq_true rfl];rfl
 have cf:∀a b:Int,a≠u->b≠v->YW [u,v] [a,b]=false:=fun a b p q=>by show(decide (a=u) || decide (b=v))=false;rw[decide_eq_false p,decide_eq_false q];rfl
 have ct:∀a b:Int,(a=u∨b=v)->YW [u,v] [a,b]=true:=fun a b p=>by show(decide (a=u) || decide (b=v))=true;simpa using p
 have P1:∀(a b:Int) (l:KL),(a≠u∨b≠v)->iP (fun y=>!decide (y=[u,v])) ([a,b]::l)=[a,b]::iP (fun y=>!decide (y=[u,v])) l:=fun a b l h=>List.filter_cons_of_pos (ne a b h);have N1:∀(l:KL),iP (fun y=>!decide (y=[u,v])) ([u,v]::l)=iP (fun y=>!decide (y=[u,v])) l:=fun l=>List.filter_cons_of_neg (by rw[eq];decide);have P2:∀(a b:Int) (l:KL),(a=u∨b=v)->iP (YW [u,v]) ([a,b]::l)=[a,b]::iP (YW [u,v]) l:=fun a b l h=>List.filter_cons_of_pos (ct a b h);have N2:∀(a b:Int) (l:KL),a≠u->b≠v->iP (YW [u,v]) ([a,b]::l)=iP (YW [u,v]) l:=fun a b l h k=>List.filter_cons_of_neg (by rw[cf a b h k];decide);unfold nb;rw[e,h1,h2];rw[P1 _ _ _ (by omega),P1 _ _ _ (by omega),P1 _ _ _ (by omega),P1 _ _ _ (by omega),N1,P1 _ _ _ (by omega),P1 _ _ _ (by omega),P1 _ _ _ (by omega),P1 _ _ _ (by omega),o4];rw[N2 _ _ _ (by omega) (by omega),P2 _ _ _ (by omega),N2 _ _ _ (by omega) (by omega),P2 _ _ _ (by omega),P2 _ _ _ (by omega),N2 _ _ _ (by omega) (by omega),P2 _ _ _ (by omega),N2 _ _ _ (by omega) (by omega),o4];rfl
theorem Nr{A:KL}{b:Bool}{x:List Int}(hx:Pair x):decide ((((nr A b x).filter (YW x)).length:Int)=4)=Sg (vV (nr A b x) x):=by
 obtain⟨u,v,rfl⟩:=hx;have e1:(nr A b [u,v]).filter (YW [u,v])=(sd [u,v]).filter (Dl A b):=by unfold nr;rw[w9,<- acA,w9];refine congrArg (fun t=>iP t (nb [u,v])) (funext fun y=>?_);exact Bool.and_comm _ _
 have e2:vV (nr A b [u,v]) [u,v]=(sd [u,v]).filter fun y=>!Dl A b y:=by
  unfold vV;refine List.filter_congr fun y hy=>?_;have hn:y∈nb [u,v]:=by rw[<- acA]at hy;exact(fm.mp hy).1
  congr 1;unfold nr;cases h:Dl A b y with
  |true=>exact decide_eq_true (fm.mpr ⟨hn,h⟩)
  |false=>exact decide_eq_false fun z=>by rw[(fm.mp z).2]at h;cases h
 rw[e1,e2];generalize Dl A b=f;unfold sd;simp only[eD,o4];cases f [c0 [u,v] - 1,c1 [u,v]] <;> cases f [c0 [u,v],c1 [u,v] - 1] <;> cases f [c0 [u,v],c1 [u,v] + 1] <;> cases f [c0 [u,v] + 1,c1 [u,v]] <;> rfl
theorem acB{A:KL}{b:Bool}{x:List Int}(hx:Pair x)(hb:Bk x):∃w:Str,cB [sh A b,tupK x]=.ok (.str w)/\oE (.str w) (.str "loose")=.ok (.bl (lo (nr A b x) x)):=by
 have hN:=Np (A:=A) (b:=b) hx hb;have l9:=afn (A:=A) (b:=b) (x:=x);have c4:=Nr (A:=A) (b:=b) hx;have ea:=YT (A:=A) (b:=b) hx hb.bd;generalize nr A b x=N at *;have l1:aQ oE (aq 2) (fA aK uV) [.fz (sh A b),.fz (tupK x),.fz (.lst (N.map tupK))]=.ok (.bl (Sg N)):=by refine aN (aC rfl) (cG aL (HD (by simp))) ?_;rw[abA];cases N <;> rfl
 have cp:dW (aM 0) gW kj 1 [1] (fL (aq 2) Zf) [.fz (sh A b),.fz (tupK x),.fz (.lst (N.map tupK))]=.ok (.lst ((N.filter (YW x)).map tupK)):=by
  refine mj (cs:=[.fz (tupK x)]) rfl (v_l (aC rfl) rfl) (fun k hk=>?_) (fun k hk=>rfl) (by omega);obtain⟨p,q,rfl⟩:=hN.st.pr k hk;obtain⟨u,v,rfl⟩:=hx;unfold gW;have q1:fT (aQ oE (aQ cN (aq 0) (fC (.int 0))) (aQ cN (aq 1) (fC (.int 0)))) [.fz (tupK [p,q]),.fz (tupK [u,v])]=.ok (decide (p=u)):=je (aN (aN (aC rfl) bG rfl) (aN (aC rfl) bG rfl) nq);have q2:fT (aQ oE (aQ cN (aq 0) (fC (.int 1))) (aQ cN (aq 1) (fC (.int 1)))) [.fz (tupK [p,q]),.fz (tupK [u,v])]=.ok (decide (q=v)):=je (aN (aN (aC rfl) bG rfl) (aN (aC rfl) bG rfl) nq);have ec:YW [u,v] [p,q]=(decide (p=u) || decide (q=v)):=rfl;rw[ec];cases h:decide (p=u) with
  |true=>rw[h]at q1;exact Vh q1
  |false=>rw[h]at q1;rw[Bool.false_or];exact Es q1 q2
 have l2:aQ oE (fA (aj (dW (aM 0) gW kj 1 [1] (fL (aq 2) Zf)) aK) mC) (fC (.int 4)) [.fz (sh A b),.fz (tupK x),.fz (.lst (N.map tupK))]=.ok (.bl (Sg (vV N x))):=by refine aN (cG (ao cp aL) nR) bG ?_;rw[cn,nq,c4]
 have l3:aQ QW (fA (aj (fA (aj (aq 2) (aj (fC (.bl false)) aK)) (bf 2 fY)) aK) mC) (fC (.int 1)) [.fz (sh A b),.fz (tupK x),.fz (.lst (N.map tupK))]=.ok (.bl (decide (1 < rl N))):=by refine aN (cG (ao (cG (ao (aC rfl) (ao bG aL)) (bL rfl (YH hN))) aL) nR) bG ?_;rw[cn];exact gt1 (rl N)
 have done:∀(d:D),cT (aU ["shape","cell","near"] [sh A b,tupK x])=.rt d->cB [sh A b,tupK x]=.ok d:=fun d h=>by unfold cB;rw[h];rfl
 have s1:iB 2 (fA (aj (aq 0) (aj (aq 1) aK)) (bf 2 fX)) (aU ["shape","cell","near"] [sh A b,tupK x])=.nx [.fz (sh A b),.fz (tupK x),.fz (.lst (N.map tupK))]:=ig (cG (ao (aC rfl) (ao (aC rfl) aL)) (bL rfl ea));cases k1:Sg N with
 |true =>
  rw[k1]at l1;refine⟨"alone",done _ ?_,?_⟩
  ·unfold cT;exact aJ s1 (qN (eE (je l1) (eF bG)))
  ·unfold lo;rw[k1];rfl
 |false =>
  rw[k1]at l1;cases k2:Sg (vV N x) with
  |true =>
   rw[k2]at l2;refine⟨"inner",done _ ?_,?_⟩
   ·unfold cT;exact aJ s1 (aJ (bQ (je l1) gk) (qN (eE (je l2) (eF bG))))
   ·unfold lo;rw[k1,k2];rfl
  |false =>
   rw[k2]at l2;cases k3:decide (1 < rl N) with
   |true =>
    rw[k3]at l3;refine⟨"bridge",done _ ?_,?_⟩
    ·unfold cT;exact aJ s1 (aJ (bQ (je l1) gk) (aJ (bQ (je l2) gk) (qN (eE (je l3) (eF bG)))))
    ·unfold lo;rw[k1,k2,k3];rfl
   |false =>
    rw[k3]at l3;refine⟨"loose",done _ ?_,?_⟩
    ·unfold cT;exact aJ s1 (aJ (bQ (je l1) gk) (aJ (bQ (je l2) gk) (aJ (bQ (je l3) gk) (eF bG))))
    ·unfold lo;rw[k1,k2,k3];rfl
theorem YX{fa fb:aD->Rs D}{ρ:aD}{r:Rs D}(h1:fa ρ=.ok (.bl true))(h2:fb ρ=r):xg fa fb ρ=r:=by unfold xg;rw[h1];exact h2
theorem eqB(b:Bool):oE (.bl b) (.bl b)=.ok (.bl true):=by cases b <;> rfl
theorem yF{A:KL}{b:Bool}{x:List Int}(hx:Pair x)(hb:Bk x):cW [sh A b,tupK x]=.ok (.bl true):=by
 obtain⟨w,e1,e2⟩:=acB (A:=A) (b:=b) hx hb;have t:=YM A b x;have last:dh (xg (fB (aq 2) (gIs .bool)) (aQ oE (aq 2) (aQ oE (fA (aj (aq 0) (aj (aq 1) aK)) (bf 2 cB)) (fC (.str "loose"))))) [.fz (sh A b),.fz (tupK x),.fz (.bl (lo (nr A b x) x))]=.rt (.bl true) :=
  eF (YX (v_b (aC rfl) rfl) (aN (aC rfl) (aN (cG (ao (aC rfl) (ao (aC rfl) aL)) (bL rfl e1)) bG e2) (eqB _)))
 have run:lR (aU ["shape","there","told"] [sh A b,tupK x])=.rt (.bl true):=by
  unfold lR;cases h:Dl A b x with
  |true =>
   rw[h]at t;exact aJ (eE (je (cG (ao (aC rfl) (ao (aC rfl) aL)) (bL rfl t))) (ig (cG (ao (aC rfl) (ao (aC rfl) aL)) (bL rfl (Az hx hb h))))) last
  |false =>
   rw[h]at t;exact aJ (bQ (je (cG (ao (aC rfl) (ao (aC rfl) aL)) (bL rfl t))) (ig (cG (ao (aC rfl) (ao (aC rfl) aL)) (bL rfl (Nq hx hb h))))) last
 unfold cW;rw[run];rfl
noncomputable abbrev RQ(n bx by_:Int)(kvs:List (List Int×D))(a3 a4 a5 a6 a7 a8 a9 a10:Sl):aD:=[.fz (.int n),.fz (tupK [bx,by_]),.od kvs,a3,a4,a5,a6,a7,a8,a9,a10]
theorem afp(kvs:List (List Int×D))(k:List Int)(d:D):qQ kvs k d≠[]:=fun e=>by have:=(vI kvs k k d).mpr (.inl rfl);rw[e]at this;cases this
theorem YZ{n bx by_ r c:Int}{kvs:List (List Int×D)}{N:Nat}(hk:GB kvs N)(hN:N<=1000){a5 a6 a7 a8 a9 a10:Sl} :
  ∃kvs',lU (RQ n bx by_ kvs (.fz (.int r)) (.fz (.int c)) a5 a6 a7 a8 a9 a10)=.nx (RQ n bx by_ kvs' (.fz (.int r)) (.fz (.int c)) a5 a6 a7 a8 a9 a10)/\GB kvs' (N + 1)/\kvs'≠[]:=by
 obtain⟨j,ej⟩:∃j:Int,aQ dZ (fC (.int 19)) (fA (aj (aQ QW (aQ cN (aq 1) (fC (.int 1))) (fC (.int 0))) aK) Jb) (RQ n bx by_ kvs (.fz (.int r)) (.fz (.int c)) a5 a6 a7 a8 a9 a10)=.ok (.int j):=by have g:Jb [.bl (decide (by_ > 0))]=.ok (.int (if decide (by_ > 0) then 1 else 0)):=rfl;exact⟨_,aN bG (cG (ao (aN (aN (aC rfl) bG rfl) bG Et) aL) g) (Xl (by decide))⟩
 obtain⟨x,y,e,b⟩:=sV (bx - r) (by_ + c - j);have l:=hk.le;refine⟨qQ kvs [x,y] (.bl true),?_,hk.put b,afp _ _ _⟩;unfold lU;exact Qd (ks:=[x,y]) bG rfl (cG (ao (aN (aN (aC rfl) bG rfl) (aC rfl) jO) (ao (aN (aN (aN (aC rfl) bG rfl) (aC rfl) cC) ej jO) aL)) (bL rfl e)) (by lia)
theorem Du{n bx by_ r:Int}{a5 a6 a7 a8 a9 a10:Sl}:∀(l:List Nat) (kvs:List (List Int×D)) (N:Nat) (a4:Sl),GB kvs N->N + l.length<=1000 ->
  ∃kvs' b4,dw (aM 4) lU (l.map fun(i:Nat)=>.int i) (RQ n bx by_ kvs (.fz (.int r)) a4 a5 a6 a7 a8 a9 a10)=.nx (RQ n bx by_ kvs' (.fz (.int r)) b4 a5 a6 a7 a8 a9 a10)/\GB kvs' (N + l.length)/\(l≠[]∨kvs≠[]->kvs'≠[])
 | [],kvs,N,a4,g,_=>⟨kvs,a4,rfl,g,fun h=>h.elim (fun z=>absurd rfl z) id⟩
 |i::l,kvs,N,a4,g,hl=>by rw[ck]at hl;obtain⟨k1,e1,g1,n1⟩:=YZ (n:=n) (bx:=bx) (by_:=by_) (r:=r) (c:=i) g (by omega) (a5:=a5) (a6:=a6) (a7:=a7) (a8:=a8) (a9:=a9) (a10:=a10);obtain⟨k2,b4,e2,g2,n2⟩:=Du (n:=n) (bx:=bx) (by_:=by_) (r:=r) (a5:=a5) (a6:=a6) (a7:=a7) (a8:=a8) (a9:=a9) (a10:=a10) l k1 (N + 1) (.fz (.int i)) g1 (by omega);refine⟨k2,b4,?_,g2.mono (by rw[ck];omega),fun _=>n2 (.inr n1)⟩;rw[bX];exact bI rfl e1 e2
theorem Dv{n bx by_:Int}{a5 a6 a7 a8 a9 a10:Sl}:∀(l:List Nat) (kvs:List (List Int×D)) (N:Nat) (a3 a4:Sl),GB kvs N->N + l.length * 20<=1000 ->
  ∃kvs' b3 b4,dw (aM 3) lV (l.map fun(i:Nat)=>.int i) (RQ n bx by_ kvs a3 a4 a5 a6 a7 a8 a9 a10)=.nx (RQ n bx by_ kvs' b3 b4 a5 a6 a7 a8 a9 a10)/\GB kvs' (N + l.length * 20)/\(l≠[]∨kvs≠[]->kvs'≠[])
 | [],kvs,N,a3,a4,g,_=>⟨kvs,a3,a4,rfl,g.mono (by simp),fun h=>h.elim (fun z=>absurd rfl z) id⟩
 |i::l,kvs,N,a3,a4,g,hl=>by
  rw[ck,kA]at hl;obtain⟨k1,b4,e1,g1,n1⟩:=Du (n:=n) (bx:=bx) (by_:=by_) (r:=i) (a5:=a5) (a6:=a6) (a7:=a7) (a8:=a8) (a9:=a9) (a10:=a10) (bS 20) kvs N a4 g (by rw[d_];omega);rw[d_]at g1;have st:lV (RQ n bx by_ kvs (.fz (.int i)) a4 a5 a6 a7 a8 a9 a10)=.nx (RQ n bx by_ k1 (.fz (.int i)) b4 a5 a6 a7 a8 a9 a10):=by unfold lV;exact mG (N:=20) (n:=20) bG (by decide) rfl e1
  obtain⟨k2,b3,c4,e2,g2,n2⟩:=Dv (n:=n) (bx:=bx) (by_:=by_) (a5:=a5) (a6:=a6) (a7:=a7) (a8:=a8) (a9:=a9) (a10:=a10) l k1 (N + 20) (.fz (.int i)) b4 g1 (by omega);refine⟨k2,b3,c4,?_,g2.mono (by rw[ck,kA];omega),fun _=>n2 (.inr (n1 (.inl (by decide))))⟩;rw[bX];exact bI rfl st e2
theorem Za{ρ:aD}{j:Nat}{kvs:List (List Int×D)}{ks:List Int}{f:aD->Rs D}(hj:ρ[j]?=some (.od kvs))(hf:f ρ=.ok (tupK ks)):uz j f ρ=.ok (.bl (!decide (ks∈ji kvs))):=by unfold uz;rw[qb hj hf];rfl
theorem abC{L:KL}{i:Int}(h0:0<=i)(h1:i < L.length):∃x∈L,cN (.tup (L.map tupK)) (.int i)=.ok (tupK x):=by
 have hj:i.toNat < L.length:=by omega
 refine⟨L[i.toNat],eW hj,aed ?_⟩;unfold xO NK;rw[if_pos h0,if_pos (by rw[cn];exact h1)];simp[d9 hj]
theorem Bc{bx by_:Int}{kvs:List (List Int×D)}{A:KL}(ne:A≠[])(la:A.length<=1000)(hp:∀x∈A,Pair x){a3 a4:Sl}:∀(l:List Nat) (n:Int) (a6 a7 a8 a9 a10:Sl),
  ∃(n':Int) (b6 b7 b8 b9 b10:Sl),dw (aM 6) lW (l.map fun(i:Nat)=>.int i) (RQ n bx by_ kvs a3 a4 (.fz (sh A false)) a6 a7 a8 a9 a10)=.nx (RQ n' bx by_ kvs a3 a4 (.fz (sh A false)) b6 b7 b8 b9 b10)
 | [],n,a6,a7,a8,a9,a10=>⟨n,a6,a7,a8,a9,a10,rfl⟩
 |i::l,n,a6,a7,a8,a9,a10=>by
  have pos:0 < A.length:=List.length_pos_iff.mpr ne;have d1:=uX (m:=n) (n:=400) ⟨by decide,by decide⟩;generalize n / 400=n1 at d1;generalize n % 400=at_ at d1;have d2:=uX (m:=n1) (n:=9) ⟨by decide,by decide⟩;generalize n1 / 9=n2 at d2;generalize n1 % 9=Sh at d2;have hl:(0:Int) < A.length:=by omega
  have m1:iD (.int at_) (.int A.length)=.ok (.int (at_ % A.length)):=qe hl;have u0:0<=at_ % (A.length:Int):=gf _ (by omega);have u1:at_ % (A.length:Int) < A.length:=iF _ hl;generalize at_ % (A.length:Int)=z at m1 u0 u1;obtain⟨x,hx,ex⟩:=abC u0 u1;obtain⟨p,q,rfl⟩:=hp x hx;have v3:uf (.int Sh) (.int 3)=.ok (.int (Sh / 3)):=HJ ⟨by decide,by decide⟩;have r3':iD (.int Sh) (.int 3)=.ok (.int (Sh % 3)):=qe (by decide);obtain⟨y0,y1,ey,ajp⟩:=sV (p + Sh / 3 - 1) (q + Sh % 3 - 1);have as:=yF (A:=A) (b:=false) (x:=[y0,y1]) ⟨_,_,rfl⟩ ajp;have st:lW (RQ n bx by_ kvs a3 a4 (.fz (sh A false)) (.fz (.int i)) a7 a8 a9 a10)=.nx (RQ n2 bx by_ kvs a3 a4 (.fz (sh A false)) (.fz (.int i)) (.fz (.int at_)) (.fz (.int Sh)) (.fz (tupK [p,q])) (.fz (tupK [y0,y1]))):=by
   unfold lW;refine aJ (ρ1:=RQ n1 bx by_ kvs a3 a4 (.fz (sh A false)) (.fz (.int i)) (.fz (.int at_)) a8 a9 a10) (jN (cG (ao (aC rfl) (ao bG aL)) d1) rfl) ?_;refine aJ (ρ1:=RQ n2 bx by_ kvs a3 a4 (.fz (sh A false)) (.fz (.int i)) (.fz (.int at_)) (.fz (.int Sh)) a9 a10) (jN (cG (ao (aC rfl) (ao bG aL)) d2) rfl) ?_;refine aJ (ρ1:=RQ n2 bx by_ kvs a3 a4 (.fz (sh A false)) (.fz (.int i)) (.fz (.int at_)) (.fz (.int Sh)) (.fz (tupK [p,q])) a10) (ig (aN (aN (aC rfl) bG rfl) (aN (aC rfl) (cG (ao (aN (aC rfl) bG rfl) aL) Gd) (by rw[cn];exact m1)) ex)) ?_;refine aJ (ρ1:=RQ n2 bx by_ kvs a3 a4 (.fz (sh A false)) (.fz (.int i)) (.fz (.int at_)) (.fz (.int Sh)) (.fz (tupK [p,q])) (.fz (tupK [y0,y1]))) (ig (cG (ao (aN (aN (aN (aC rfl) bG rfl) (aN (aC rfl) bG v3) cC) bG jO) (ao (aN (aN (aN (aC rfl) bG rfl) (aN (aC rfl) bG r3') cC) bG jO) aL)) (bL rfl ey))) ?_;have t:fT (uz 2 (aq 10)) (RQ n2 bx by_ kvs a3 a4 (.fz (sh A false)) (.fz (.int i)) (.fz (.int at_)) (.fz (.int Sh)) (.fz (tupK [p,q])) (.fz (tupK [y0,y1])))=.ok (!decide ([y0,y1]∈ji kvs)):=je (Za rfl (aC rfl));cases h:!decide ([y0,y1]∈ji kvs) with
   |false=>rw[h]at t;exact bQ (rY t) gk
   |true=>rw[h]at t;exact bQ (rZ t (yX (t:=true) (je (cG (ao (aC rfl) (ao (aC rfl) aL)) (bL rfl as))))) gk
  obtain⟨n3,c6,c7,c8,c9,c10,e2⟩:=Bc (bx:=bx) (by_:=by_) (kvs:=kvs) ne la hp (a3:=a3) (a4:=a4) l n2 (.fz (.int i)) (.fz (.int at_)) (.fz (.int Sh)) (.fz (tupK [p,q])) (.fz (tupK [y0,y1]));refine⟨n3,c6,c7,c8,c9,c10,?_⟩;rw[bX];exact bI rfl st e2
theorem afq(n:Int):lE [.int n]=.ok (.bl true):=by
 obtain⟨bx,by_,n1,hb⟩:=Ym n;obtain⟨kvs,b3,b4,e1,g1,n1'⟩:=Dv (n:=n1) (bx:=bx) (by_:=by_) (a5:=.no) (a6:=.no) (a7:=.no) (a8:=.no) (a9:=.no) (a10:=.no) (bS 20) [] 0 .no .no .nil (by rw[d_];decide);have ne:=n1' (.inl (by decide));have lk:kvs.length<=400:=by have:=g1.le;rw[d_]at this;omega
 have sA:So.bO (ji kvs)≠[]:=fun e=>by have:=congrArg ip e;rw[oK,cn]at this;exact ne (mM.mp this)
 have eS:=Aw (ρ:=RQ n1 bx by_ kvs b3 b4 .no .no .no .no .no .no) (j:=2) rfl g1.gn (by omega);have hp:∀x∈So.bO (ji kvs),Pair x:=fun x hx=>g1.gn.pr x (gR.mp hx);have la:(So.bO (ji kvs)).length<=1000:=by rw[oK,cn];omega
 have eK:ji kvs=kvs.map (·.1):=rfl;rw[<- eK]at eS;generalize So.bO (ji kvs)=A at *;obtain⟨n3,c6,c7,c8,c9,c10,e3⟩:=Bc (bx:=bx) (by_:=by_) (kvs:=kvs) sA la hp (a3:=b3) (a4:=b4) (bS 3) n1 .no .no .no .no .no;obtain⟨x,y,ey,hk⟩:=sV (bx - 20) by_;have as:=yF (A:=A) (b:=false) (x:=[x,y]) ⟨_,_,rfl⟩ hk;have run:nF (aU ["number","base","cells","row","column","shape","k","at","by","spot","there"] [.int n])=.rt (.bl true):=by unfold nF;refine aJ (ρ1:=[.fz (.int n1),.fz (tupK [bx,by_]),.no,.no,.no,.no,.no,.no,.no,.no,.no]) (jN (cG (ao (aC rfl) aL) (bL rfl hb)) rfl) ?_;refine aJ (ρ1:=RQ n1 bx by_ [] .no .no .no .no .no .no .no .no) rfl ?_;refine aJ (ni (mG (N:=20) (n:=20) bG (by decide) rfl e1)) ?_;refine aJ (ρ1:=RQ n1 bx by_ kvs b3 b4 (.fz (sh A false)) .no .no .no .no .no) (ig (cG (ao (cG (ao eS aL) rfl) (ao bG aL)) (t2 _ _))) ?_;refine aJ (ni (mG (N:=3) (n:=3) bG (by decide) rfl e3)) ?_;exact eF (cG (ao (aC rfl) (ao (cG (ao (aN (aN (aC rfl) bG rfl) bG jO) (ao (aN (aC rfl) bG rfl) aL)) (bL rfl ey)) aL)) (bL rfl as))
 unfold lE;rw[run];rfl
theorem afr(ns:List Int)(k:Nat):∃z:Int,gK [.lst (ns.map D.int),.int k]=.ok (.int z):=by
 by_cases h:k < ns.length
 ·have ix:cN (.lst (ns.map D.int)) (.int k)=.ok (.int ns[k]):=uY (by
   unfold xO NK;rw[if_pos (by omega),if_pos (by rw[cn];omega)];simp[d9 h])
  refine⟨ns[k],?_⟩;have run:jo (aU ["script","k"] [.lst (ns.map D.int),.int k])=.rt (.int ns[k]):=by unfold jo;exact qN (eE (je (aN (aC rfl) (cG (ao (aC rfl) aL) nR) (by rw[KJ,decide_eq_true (by rw[cn];omega)]))) (eF (aN (aC rfl) (aC rfl) ix)))
  unfold gK;rw[run];rfl
 ·refine⟨0,?_⟩;have run:jo (aU ["script","k"] [.lst (ns.map D.int),.int k])=.rt (.int 0):=by unfold jo;exact aJ (bQ (je (aN (aC rfl) (cG (ao (aC rfl) aL) nR) (by rw[KJ,decide_eq_false (by rw[cn];omega)]))) gk) (eF bG)
  unfold gK;rw[run];rfl
theorem afs{ρ:aD}{i n:Nat}{g:List D->Rs (List D)}{fs:aD->Rs (List D)}{ds es:List D}(h1:fs ρ=.ok ds)(hl:ds.length=n)(h2:g ds=.ok es):Ji i n g fs ρ=.nx (ρ.set i (.ow es)):=by unfold Ji;rw[h1];simp only[Jo];rw[if_pos hl,h2]
theorem Zb{ns:List Int}{a c:Option Int}:∃ms:List Int,Bm (ns.map D.int) a c=ms.map D.int/\ms.length<=ns.length:=by
 have h:∀d∈Bm (ns.map D.int) a c,∃x:Int,d=.int x:=fun d hd=>by unfold Bm at hd;obtain⟨x,_,rfl⟩:=dC.mp (ui (n6 hd));exact⟨x,rfl⟩
 have l:(Bm (ns.map D.int) a c).length<=ns.length:=by unfold Bm;rw[i5,l6,cn];omega
 generalize Bm (ns.map D.int) a c=ds at h l;refine⟨ds.map fun d=>match d with|.int x=>x|_=>0,?_,by rw[cn];exact l⟩;rw[gz];refine(List.map_id ds).symm.trans (mB fun d hd=>?_);obtain⟨x,rfl⟩:=h d hd;rfl
theorem ajq{f:aD->Rs D}{lo hi:aD->Rs (Option Int)}{ρ:aD}{ds:List D}{a c:Option Int}(hf:f ρ=.ok (.lst ds))(hl:lo ρ=.ok a)(hh:hi ρ=.ok c):fSl f lo hi ρ=.ok (.lst (Bm ds a c)):=by unfold fSl;rw[hf];show(lo ρ).bind _=_;rw[hl];show(hi ρ).bind _=_;rw[hh];rfl
theorem Ke{A:KL}{b:Bool}{S c A2 n s5 a7 a8:Sl}:∀(T:KL) (a6:Sl),(∀x∈T,Pair x)->∃b6,dw (aM 6) yx (T.map tupK) [S,c,A2,n,.fz (sh A b),s5,a6,a7,a8]=.nx [S,c,A2,n,.fz (sh A b),s5,b6,a7,a8]
 | [],a6,_=>⟨a6,rfl⟩
 |x::T,a6,h=>by
  obtain⟨u,v,rfl⟩:=h x (.head _);obtain⟨y0,y1,ey,hk⟩:=sV u v;have as:=yF (A:=A) (b:=b) (x:=[y0,y1]) ⟨_,_,rfl⟩ hk;obtain⟨b6,e2⟩:=Ke (A:=A) (b:=b) (S:=S) (c:=c) (A2:=A2) (n:=n) (s5:=s5) (a7:=a7) (a8:=a8) T (.fz (tupK [u,v])) (fun z hz=>h z (.tail _ hz));have st:yx [S,c,A2,n,.fz (sh A b),s5,.fz (tupK [u,v]),a7,a8]=.nx [S,c,A2,n,.fz (sh A b),s5,.fz (tupK [u,v]),a7,a8]:=by unfold yx;exact bQ (yX (t:=true) (je (cG (ao (aC rfl) (ao (cG (ao (aN (aC rfl) bG rfl) (ao (aN (aC rfl) bG rfl) aL)) (bL rfl ey)) aL)) (bL rfl as)))) gk
  refine⟨b6,?_⟩;rw[bX];exact bI rfl st e2
theorem Kf{A:KL}{b:Bool}{S c A2 n a7 a8:Sl}:∀(T:KL) (a5 a6:Sl),(∀x∈T,Pair x)->∃b5 b6,dw (aM 5) yC (T.map tupK) [S,c,A2,n,.fz (sh A b),a5,a6,a7,a8]=.nx [S,c,A2,n,.fz (sh A b),b5,b6,a7,a8]
 | [],a5,a6,_=>⟨a5,a6,rfl⟩
 |x::T,a5,a6,h=>by
  obtain⟨u,v,rfl⟩:=h x (.head _);obtain⟨b6,e1⟩:=Ke (A:=A) (b:=b) (S:=S) (c:=c) (A2:=A2) (n:=n) (s5:=.fz (tupK [u,v])) (a7:=a7) (a8:=a8) [[u,v],[u,v - 1],[u + 1,v + 1]] a6 (fun z hz=>by
   simp only[cm,f9,or_false]at hz;rcases hz with rfl|rfl|rfl <;> exact⟨_,_,rfl⟩)
  obtain⟨b5,c6,e2⟩:=Kf (A:=A) (b:=b) (S:=S) (c:=c) (A2:=A2) (n:=n) (a7:=a7) (a8:=a8) T (.fz (tupK [u,v])) b6 (fun z hz=>h z (.tail _ hz));have st:yC [S,c,A2,n,.fz (sh A b),.fz (tupK [u,v]),a6,a7,a8]=.nx [S,c,A2,n,.fz (sh A b),.fz (tupK [u,v]),b6,a7,a8]:=by unfold yC;exact uo (cG (ao (aC rfl) (ao (cG (ao (aN (aC rfl) bG rfl) (ao (aN (aN (aC rfl) bG rfl) bG jO) aL)) (t2 _ _)) (ao (cG (ao (aN (aN (aC rfl) bG rfl) bG cC) (ao (aN (aN (aC rfl) bG rfl) bG cC) aL)) (t2 _ _)) aL))) (HD (by simp))) e1
  refine⟨b5,c6,?_⟩;rw[bX];exact bI rfl st e2
theorem abD{d:D}(h:gP d<=8):Bp d d=.ok (.bl false):=by rw[aec h h,uR];rfl
theorem abE(c:Int){S a2 a3 a4 a5 a6 a7 a8:Sl}:∃b2 b3 b4 b5 b6 b7 b8,yD [S,.fz (.int c),a2,a3,a4,a5,a6,a7,a8]=.nx [S,.fz (.int c),b2,b3,b4,b5,b6,b7,b8]:=by
 obtain⟨n,e0⟩:=afg c 1 ⟨by decide,by decide⟩;obtain⟨A,m,e1,hA,l0,hk⟩:=abt n;have la:=hA.le;have m3:iD (.int m) (.int 3)=.ok (.int (m % 3)):=qe (by decide);have q3:=nq (m:=m % 3) (n:=1);generalize decide (m % 3=1)=b at q3;obtain⟨b5,b6,e2⟩:=Kf (A:=A) (b:=b) (S:=S) (c:=.fz (.int c)) (A2:=.fz (.tup (A.map tupK))) (n:=.fz (.int m)) (a7:=a7) (a8:=a8) (A++[[0,0]]) a5 a6 (fun x hx=>by
  rcases dt.mp hx with hx|hx
  ·exact hA.st.pr x hx
  ·rw[ie.mp hx];exact⟨_,_,rfl⟩)
 have ct:Dg (.tup (A.map tupK)) (.tup [tupK [0,0]])=.ok (.tup ((A++[[0,0]]).map tupK)):=by unfold Dg;dsimp only;rw[if_pos (by rw[cn];simp only[ck,d4];omega),iL];rfl
 have lc:=Ca (A:=A) (fun x hx=>⟨hA.st.pr x hx,hk x hx⟩) (by omega);have du:∀a5 a6 a7:Sl,dW (aM 0) Gs Qj 1 [2] (fL (aq 2) asT) [S,.fz (.int c),.fz (.tup (A.map tupK)),.fz (.int m),.fz (sh A b),a5,a6,a7,a8]=.ok (.lst ((A.filter fun x=>lo (nr A false x) x).map tupK)):=fun a5 a6 a7=>by refine mj (cs:=[.fz (.tup (A.map tupK))]) rfl (v_l (aC rfl) rfl) (fun k hk'=>?_) (fun k hk=>rfl) (by omega);obtain⟨w,e1,e2⟩:=acB (A:=A) (b:=false) (hA.st.pr k hk') (hk k hk');unfold Gs;exact je (aN (cG (ao (cG (ao (aC rfl) (ao bG aL)) (t2 _ _)) (ao (aC rfl) aL)) (bL rfl e1)) bG e2)
 have ll:(A.filter fun x=>lo (nr A false x) x).length<=100:=cx (iO _ _) la;generalize A.filter (fun x=>lo (nr A false x) x)=L at *;have e6:XC dU [sh A false]=.ok (.lst (L.map tupK)):=by unfold XC;rw[lc]
 have nn:Bp (.lst (L.map tupK)) (.lst (L.map tupK))=.ok (.bl false):=abD (by have:=sJ L;simp only[gP];lia);have m8:iD (.int m) (.int 8)=.ok (.int (m % 8)):=qe (by decide);have v8:uf (.int m) (.int 8)=.ok (.int (m / 8)):=HJ ⟨by decide,by decide⟩;have v72:uf (.int m) (.int 72)=.ok (.int (m / 72)):=HJ ⟨by decide,by decide⟩;have m9:iD (.int (m / 8)) (.int 9)=.ok (.int (m / 8 % 9)):=qe (by decide);have m9':iD (.int (m / 72)) (.int 9)=.ok (.int (m / 72 % 9)):=qe (by decide);obtain⟨y0,y1,ey,hy⟩:=sV (m / 8 % 9) (m / 72 % 9);have as:=yF (A:=[]) (b:=true) (x:=[y0,y1]) ⟨_,_,rfl⟩ hy;have fu:=afq (m / 8);refine⟨.fz (.tup (A.map tupK)),.fz (.int m),.fz (sh A b),b5,b6,.fz (.lst (L.map tupK)),.ow (L.map tupK++[tupK [0,0]]),?_⟩;unfold yD;refine aJ (ρ1:=[S,.fz (.int c),.fz (.tup (A.map tupK)),.fz (.int m),a4,a5,a6,a7,a8]) (jN (cG (ao (cG (ao (aC rfl) (ao bG aL)) (bL rfl e0)) aL) (bL rfl e1)) rfl) ?_;refine aJ (ρ1:=[S,.fz (.int c),.fz (.tup (A.map tupK)),.fz (.int m),.fz (sh A b),a5,a6,a7,a8]) (ig (cG (ao (aC rfl) (ao (aN (aN (aC rfl) bG m3) bG q3) aL)) (t2 _ _))) ?_;refine aJ (KH (aN (aC rfl) (cG (ao (cG (ao bG (ao bG aL)) (t2 _ _)) aL) (xr (by simp))) ct) e2) ?_;refine aJ (ρ1:=[S,.fz (.int c),.fz (.tup (A.map tupK)),.fz (.int m),.fz (sh A b),b5,b6,.fz (.lst (L.map tupK)),a8]) (ig (du b5 b6 a7)) ?_;refine aJ (ρ1:=[S,.fz (.int c),.fz (.tup (A.map tupK)),.fz (.int m),.fz (sh A b),b5,b6,.fz (.lst (L.map tupK)),.ow (L.map tupK)]) (afs (ao (cG (ao (aC rfl) (ao bG aL)) (t2 _ _)) aL) rfl lc) ?_;refine aJ (bQ (Es (yX (t:=true) (yE rfl (je (v_b (aC rfl) rfl)))) (yE rfl (je (aN (aC rfl) (aC rfl) nn)))) gk) ?_;refine aJ (ρ1:=[S,.fz (.int c),.fz (.tup (A.map tupK)),.fz (.int m),.fz (sh A b),b5,b6,.fz (.lst (L.map tupK)),.ow (L.map tupK++[tupK [0,0]])]) (YF rfl (cG (ao bG (ao bG aL)) (t2 _ _)) (by rw[cn];omega)) ?_;refine aJ (bQ (je (aN (cG (ao (cG (ao (aC rfl) (ao bG aL)) (t2 _ _)) aL) (bL rfl e6)) (aC rfl) nn)) gk) ?_;refine aJ (ρ1:=[S,.fz (.int c),.fz (.tup (A.map tupK)),.fz (.int m),.fz (sh A b),b5,b6,.fz (.lst (L.map tupK)),.ow (L.map tupK++[tupK [0,0]])]) ?_ ?_
 ·have t:=nq (m:=m % 8) (n:=3);have t':fT (aQ oE (aQ iD (aq 3) (fC (.int 8))) (fC (.int 3))) [S,.fz (.int c),.fz (.tup (A.map tupK)),.fz (.int m),.fz (sh A b),b5,b6,.fz (.lst (L.map tupK)),.ow (L.map tupK++[tupK [0,0]])]=.ok (decide (m % 8=3)):=je (aN (aN (aC rfl) bG m8) bG t);cases h:decide (m % 8=3) with
  |false=>rw[h]at t';exact bQ (rY t') gk
  |true=>rw[h]at t';exact bQ (rZ t' (yX (t:=true) (je (cG (ao (aN (aC rfl) bG v8) aL) (bL rfl fu))))) gk
 ·have t:=nq (m:=m % 8) (n:=5);have t':fT (aQ oE (aQ iD (aq 3) (fC (.int 8))) (fC (.int 5))) [S,.fz (.int c),.fz (.tup (A.map tupK)),.fz (.int m),.fz (sh A b),b5,b6,.fz (.lst (L.map tupK)),.ow (L.map tupK++[tupK [0,0]])]=.ok (decide (m % 8=5)):=je (aN (aN (aC rfl) bG m8) bG t);cases h:decide (m % 8=5) with
  |false=>rw[h]at t';exact bQ (rY t') gk
  |true=>rw[h]at t';exact bQ (rZ t' (yX (t:=true) (je (cG (ao (cG (ao (cG aL (xr (by simp))) (ao bG aL)) (t2 _ _)) (ao (cG (ao (aN (aN (aC rfl) bG v8) bG m9) (ao (aN (aN (aC rfl) bG v72) bG m9') aL)) (bL rfl ey)) aL)) (bL rfl as))))) gk
theorem Zc(ns:List Int)(hn:ns.length<=63):Ql [.lst (ns.map D.int)]=.ok (.bl true):=by
 obtain⟨c0',ec0⟩:=afr ns 0;obtain⟨ms,em,lm⟩:=Zb (ns:=ns) (a:=some 1) (c:=some 11)
 let S:Sl:=.fz (.lst (ns.map D.int))
 obtain⟨ρ1,e1,b1,b2,b3,b4,b5,b6,b7,b8,rfl⟩:=zY (h:=aM 1) (g:=yD) D.int (fun done ρ=>∃b1 b2 b3 b4 b5 b6 b7 b8,ρ=[S,b1,b2,b3,b4,b5,b6,b7,b8]) (L:=c0'::ms) (ρ:=[S,.no,.no,.no,.no,.no,.no,.no,.no]) ⟨_,_,_,_,_,_,_,_,rfl⟩ (by
  rintro c done ρ hc hd ⟨b1,b2,b3,b4,b5,b6,b7,b8,rfl⟩;obtain⟨c2,c3,c4,c5,c6,c7,c8,e⟩:=abE c (S:=S) (a2:=b2) (a3:=b3) (a4:=b4) (a5:=b5) (a6:=b6) (a7:=b7) (a8:=b8);exact⟨_,_,rfl,e,_,_,_,_,_,_,_,_,rfl⟩)
 have it:aQ bH (fA (aj (fA (aj (aq 0) (aj (fC (.int 0)) aK)) (bf 2 gK)) aK) uV) (fSl (aq 0) (fP (fC (.int 1))) (fP (fC (.int 11)))) [S,.no,.no,.no,.no,.no,.no,.no,.no]=.ok (.lst ((c0'::ms).map D.int)):=by refine aN (cG (ao (cG (ao (aC rfl) (ao bG aL)) (bL rfl ec0)) aL) (HD (by simp))) (ajq (aC rfl) rfl rfl) ?_;rw[em];exact QZ (by rw[cn];simp only[ck,d4];omega)
 have run:Qk (aU ["script","cell","cells","number","shape","spot","there","due","told"] [.lst (ns.map D.int)])=.rt (.bl true):=by unfold Qk;exact aJ (ni (uo it e1)) (eF bG)
 unfold Ql;rw[run];rfl
end yt
open PySem PySem.W PyProof.Rows
namespace PySem.W.Fast
def tw10078831369501098757:=0
def tw7501744018963213303:=0
def tw12844456568415227641:=0
def tw8341129391454902912:=0
def tw5523693075088942150:=0
def tw15762558633246627660:=0
def tw18070513961992094878:=0
def tw12918180936750044430:=0
def tw2538103866895901871:=0
def tw2778617858385798922:=0
def tw2521670746533489935:=0
def tw12783903498996842180:=0
def tw15775685214872461234:=0
def tw15457938528965664367:=0
def tw15512057138488300799:=0
def tw16746945111088091201:=0
def tw13959980666219046779:=0
def tw5558871940875302770:=0
def tw7327614122294216643:=0
def tw10003328990133586123:=0
def tw10267320870854348425:=0
def tw5302314240018421241:=0
def tw2538206382223584984:=0
def tw121804155379675459:=0
def tw12703708888313259162:=0
def tw7694637901962318456:=0
def tw5529206150495821008:=0
def tw14537849485001533763:=0
def tw4443913346612874625:=0
def tw6656181897917900912:=0
def tw1693377248996877172:=0
def tw5936981703204151921:=0
def tw16178958257208155186:=0
def tw11270823591423602608:=0
def tw14754988506296693352:=0
def tw10792309482274243559:=0
def tw4799168993297796385:=0
def tw1859703228868260075:=0
def tw7403196043662406290:=0
def tw6852159462686231689:=0
def tw14229796231655767123:=0
def tw14142123493344540480:=0
def tw10170145349621772610:=0
def tw2229300165602416988:=0
def tw13801007223334449089:=0
def tw17878358518143080220:=0
def tw17318582735176453031:=0
def tw18113368516283696104:=0
def tw8294201492758192192:=0
def tw17297929584430983870:=0
def tw4278593794241155878:=0
def tw17469913952069651362:=0
def tw9551228964162318448:=0
def tw10588407807692852959:=0
def tw11365971803712969286:=0
def tw9283966928120589413:=0
def tw15545550305558695428:=0
def tw8056299882139416397:=0
def tw14928764051169215767:=0
def tw2411119493841812507:=0
def tw3590371568638836616:=0
def tw11437644759948762941:=0
def tw13661111410519840624:=0
def tw14838377400408495966:=0
def tw8400586766552672145:=0
def tw13793421057278354581:=0
def tw10645885194366715921:=0
def tw5954681100816956957:=0
def tw3854523520133860408:=0
def tw14506644422237710317:=0
def tw6801445732457490141:=0
def tw4268926534329215125:=0
def tw2897564918480932693:=0
def tw5522309408939955575:=0
def tw2057093511239883257:=0
def tw15722966733742821832:=0
def tw12097153491150204146:=0
def tw7731890271488899221:=0
def tw8222579257266471952:=0
def tw14556186701700576656:=0
def tw1060796891306257945:=0
def tw8657924425655600487:=0
def tw10291128413379968208:=0
def tw13348749228182650130:=0
def tw16699484067554383413:=0
def tw6617338592397796578:=0
def tw11485979246999880932:=0
def tw12105853930969560121:=0
def tw16317980337302927844:=0
def tw18433564153820044510:=0
def tw11648378213764340463:=0
def tw15098951317752536100:=0
def tw13064739433832941991:=0
def tw642418552231856223:=0
def tw14615626933904544013:=0
def tw15339740398272600580:=0
def tw12111364060081675530:=0
def tw15466024173974676958:=0
def tw2332253899292607629:=0
def tw2728285008250077965:=0
def tw9251732384403231086:=0
def tw6724515167857167134:=0
def tw8279979318488054940:=0
def tw8706142998539758627:=0
def tw9102625951885851631:=0
def tw5015557769651313127:=0
def tw3993388851133639238:=0
def tw4533229803681850448:=0
def tw5906651454619272664:=0
def tw4111697913320415954:=0
def tw2779915983137966495:=0
def tw6498522562704639446:=0
def tw2779489524480044298:=0
def tw6550247122462103886:=0
def tw1098204848857439537:=0
def tw633125838999597251:=0
def tw1903004896431412599:=0
def tw7433906669443610092:=0
def tw6737543370861410002:=0
def tw14495763631131034454:=0
def tw17138731754343611937:=0
def tw2576283181637524056:=0
def tw3658574072759518960:=0
def tw13670221737374551161:=0
def tw6316971005765526830:=0
def tw877635145367373213:=0
def tw3895145120417269809:=0
def tw4576800542860643209:=0
def tw11189996804349828624:=0
def tw13430184884855535732:=0
def tw11724995308511962384:=0
def tw9619881585923944748:=0
def tw10624650632341704556:=0
def tw15901278102348117099:=0
def tw17586397697141931476:=0
def tw13492311356107541623:=0
def tw503856609915769689:=0
def tw10509380645424619818:=0
def tw11577612990485174280:=0
def tw9500699727570952017:=0
def tw9912842821448781061:=0
def tw84398603115952719:=0
def tw2341779517830300522:=0
def tw9582664407739859929:=0
def tw11459249229022508939:=0
def tw14995079313698474638:=0
def tw6503338785265406544:=0
def tw15489105276026914211:=0
def tw9345572770813724141:=0
def tw7098679506746133574:=0
def tw3038230356817612331:=0
def tw11519556125947449025:=0
def tw16991779435294123409:=0
def tw7621422933230142440:=0
def tw4136463740140864181:=0
def tw16204998176962528331:=0
def tw9189230857315154145:=0
def tw2273189347676804276:=0
def tw17357752157054081192:=0
def tw14145191924109105587:=0
def tw14696131053557252459:=0
def tw18178069535429408654:=0
def tw797137178533715584:=0
def tw11374864229334019907:=0
def tw6564715834410476433:=0
def tw7580842895513161274:=0
def tw12099802832235351224:=0
def tw12468150468687572374:=0
def tw15247173082457371376:=0
def tw6366406410457352932:=0
def tw12055613425044373369:=0
def tw864330865103265133:=0
def tw2147219456365839019:=0
def tw7604733619453586019:=0
def tw9664671806652666332:=0
def tw10742957306881303613:=0
def tw9761801577156859570:=0
def tw1226239792495029298:=0
def tw5109430498731614085:=0
def tw9897668842902632995:=0
def tw5599603877535403361:=0
def tw6546953805205548047:=0
def tw8598279698210140523:=0
def tw6192694946488509637:=0
def tw6431904383470780145:=0
def tw988085193609461906:=0
def tw4136686294282581326:=0
def tw16384047207857853105:=0
def tw4055492129669796289:=0
def tw5133478511155167582:=0
def tw14923773950209504920:=0
def tw5716687764264999665:=0
def tw12062155201154587758:=0
def tw11118062685909816579:=0
def tw17498646641005883895:=0
def tw4515197133227150270:=0
def tw1239203954078693225:=0
def tw8135508960629278147:=0
def tw15911217007299775033:=0
def tw18412807360632941759:=0
def tw12088841310860015865:=0
def tw3404980551502174872:=0
def tw18429691437555184482:=0
def tw11624336192093707370:=0
def tw12048064552352289107:=0
def tw5066393316148288078:=0
def tw2472943476439835711:=0
def tw4948922686319420173:=0
def tw17776174712285261898:=0
def tw12051154803612640982:=0
def tw7972384340005142182:=0
def tw15479259776473932612:=0
end PySem.W.Fast
theorem PySem.Challenge.cw_edgemoss_k73_loose_cells_and_comers_holds : PySem.Challenge.rw_edgemoss_k73_loose_cells_and_comers.Holds := by
 w_on;o_law;k_head;(case hw=>w_witness2)
 k_fill
 refine Vl.adZ (l:=PySem.Challenge.rw_edgemoss_k73_loose_cells_and_comers) (k:=9) (v:=yt.Ql) rfl rfl ⟨rfl,by decide,by decide⟩ (fun w h Y=>PySem.W.kIn_of Y) ?L ?V ?F
 case L=>exact fun w=>by kernel_rfl
 case V=>exact yt.Zc
 case F =>
  intro w mg fa h KX G hmg;refine' yt.all_mk KX G hmg ?_ ?_ ?_ ?_ ?_ ?_ ?_ ?_ ?_ ?_ ?_ ?_ ?_ ?_ ?_ ?_ ?_ ?_ ?_ ?_ ?_ ?_ ?_ ?_ ?_ ?_ ?_ ?_ ?_ ?_ ?_ ?_ ?_ ?_ ?_ ?_ ?_ ?_ ?_ ?_ ?_ ?_ ?_ ?_ ?_ ?_
  all_goals try refine' Vl.Dn.mk ?_ ?_ ?_ ?_
  all_goals try first|k_is|kernel_rfl|k_exc
