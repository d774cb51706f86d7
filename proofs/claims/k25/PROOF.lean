import PyProof.Rows.All
import Wide.All
import OpenK.AllK
import PySem.Challenge.RW_edgemoss_k25_greatest_marks
open PySem renaming Value->aa,Addr->ae,Shared->af,wpAny_bind->ag,Expr->ah,wpAny->ar,model->ax,World->az,Program->aE,Around->aI,eval->aS,wpAny_pure->a_,starEach->bg,Stmt->bj,Spec->bq,mainGlobals->bu,cLine->bX,Builtin->cw,argBest->c_,intKind->de,FuncData->dq,backTo->dt,rawInt->dy,wpAny_mono->dS,wpAny_field->ef,SetTable->eA,NameKind->eB,pyNext->eD,IsPair->eK,holding->eL,sizeLine_eq->eM,swapsWith->eW,wpAny_holding->e_,codeAny->fq,assignEach->fN,wpAny_rule->f7,foldedSetIterable->gc,compareOp->gd,wpAny_seqItems->gu,IsZip->gx,wpAny_newObj_type->gz,bootBuiltins->gT,mem_of_lookup->g9,wpAny_call_entry->ic,plainId_quiet->ie,sysModules->ij,IsTupleKey->iA,wpAny_updateSeq->iL,wpAny_letGo->iN,wpAny_tryCatch->iO,binaryOp->i0,behindInMarks->i3,wpAny_attempt->ja,wpAny_of_eq->jI,backToKw->j5,keywordEach->j6,codeAny_builtin->j_,BindsTo->ki,bindL->ko,bindC->kq,noteFrame->kv,wpAny_callSpecial?_slot->kD,wpAny_setField_rec->kG,updateSeq->kK,seqItems?->kL,GenState->kP,wpAny_truthy_bool->kR,PassesOwn->kT,CmpOp->kU,Keyword->kX,sliceBounds->k8,wpAny_setField->k9,argsOk->lj,SetTable->ll,codeAmong->l9,standAt->me,swapsWithSole->mf,swappedStores->mh,Arguments->mw,attributeBase->mE,callerA->mM,isSubtype_type->nK,wpAny_isInstance->nL,firstArgMember->nN,wpAny_passesOwn->om,DictEntry->oy,setFlight->oC,Fin->pf,ItemsOf->pE,richCompare->pM,Str->pT,tupleKind->pV,wpAny_execs_nil->p8,letOwnedTupleGo->p9,wpAny_pyIter_list->p_,wpAny_Call_Name_kw->qf,wpAny_call->qs,wpAny_throw->qv,tupleKind_room_in1->r8,typeLookup_type->r_,builtinLookup_eq_fast->se,wpAny_specialOf->sf,wpAny_typeNameOfWhole_keyiter->sj,wpAny_typeNameOf_keyiter->sm,wpAny_standAt->td,wpAny_pyIter_tuple->tf,recursionLimit->tj,wpAny_Call_method_late->tq,codeAny_mono->tJ,Builtin->ve,wpAny_handled->v8,isSubtype_stop->v_,wpAny_dictEntries->wb,wpAny_dictEpoch->wc,wpAny_typeOf->we,wpAny_onRaise->wo,wpAny_pyIter_zip->wq
open PySem.W renaming Frag->ai,nsIn->cf,Frag->cS,mg_none_of->fF,fnOf->gf,Looks->gm,kitOne->gr,mg_of->gy,nsIn->ip,codeHdIn->iP,keepIn->j0,hideAll->kM,findIn->lh,codeIn->my,OpenLaw->mI,kia_one->m8,findIn->oo,methodObj->p7,hideAll_get->sR,of_hideAll->sT,hideAll_none->s_,excIn->uA,looks_findIn->u4
open PyProof.Rows renaming Keyed->aw,arrOf->ay,wpS_bind->bb,SortSt->bo,wpS_pure->br,pendingOf->b9,elem'->c9,wpS_mono->eJ,seqObj->eS,wpS_forRange->fv,SortKind->fx,failedOf->fy,wpS_get->g_,mirror->iE,wpS_modify->jn,envOfC->ku,seqObj->kC,AllBare->kN,wpS_lift->ls,envOfC->mT,setPending->nB,callWith_type1->oj,IntsAre->ox,reverseSlice'->oQ,minRun'->pd,AllBare->qq,boot_isinstance->uS,listUpdate_at->vy,get?_update_seq->vz,seqEpoch_at->vE,IsTup->vT
open Nat renaming le_refl->bz,ne_of_lt->ck,lt_of_lt_of_le->dm,le_trans->et,lt_irrefl->fw,zero_le->fR,zero_add->hZ,le_of_lt->iX,mod_eq_of_lt->jb,ne_of_gt->jS,lt_succ_of_lt->j8,add_zero->m_,lt_or_ge->nz,add_assoc->o8,lt_of_le_of_lt->qi,pow_succ->qA,add_mul_mod_self_left->qB,mod_eq_sub_mod->qE,le_succ->r0,le_add_right->sM,min_self->t_,le_of_eq->uC,add_mod->u5,pos_of_ne_zero->u6,mul_mod->u7,mul_assoc->u_,reduceAdd->xh,reduceSub->xi,reduceEqDiff->xj,reduceLeDiff->xk
open PySem.Heap renaming lt_size->bE,get?_push_of_some->bS,get?_push_size->cy,get?_update_other->eC,SameBut->fI,get?_update_self->gE,size_push->i_,get?_update_ne->lL,size_update->rX,ExtBut->si,NotedW->uu
open List renaming mem_cons->bP,map_cons->cb,length_cons->cq,getElem?_set_ne->cv,length_map->cx,range->cz,size_toArray->cE,getElem?_map->cK,getElem?_eq_some_iff->df,getElem?_set_self->di,getElem?_eq_getElem->du,mem_cons_self->dC,length_append->dE,mem_cons_of_mem->dP,mem_append->dQ,mem_singleton->d_,length_nil->eI,mem_map->eQ,not_mem_nil->eT,mem_append_right->fg,getD_eq_getElem?_getD->f6,find?_cons->f9,mem_filter->f_,pairwise_cons->gL,set_cons_zero->gS,set_cons_succ->h_,length->il,drop_eq_getElem_cons->iq,map_map->iF,mem_range->iS,append_nil->i4,replicate->i5,getElem?_append_right->i6,getElem?_append_left->i7,lookup_cons->i8,lookup->i9,pairwise_append->jv,length_take->j3,map_nil->j4,getElem_mem->j7,append_assoc->j9,length_range->ke,Nodup->kg,all_eq_true->kz,toArray->kB,mem_append_left->kQ,nodup_cons->k7,perm_append_comm->lI,filterMap_cons->l_,getElem?_replicate->ml,getElem?_take_of_lt->mo,mem_of_getElem?->mv,length_drop->mB,drop_eq_nil_of_le->mP,lookup_cons_self->mS,Perm->nc,pairwise_iff_getElem->ng,mem_iff_getElem?->ny,filter_cons->nE,map_congr_left->nI,map_append->nV,length_filter_le->nX,getElem?_cons_succ->n8,mem_filterMap->oi,length_replicate->oq,range_succ_eq_map->oz,drop_length->oB,ext_getElem->oI,getElem?_drop->o7,mem_reverse->o9,cons_append->o_,nil_append->pS,take_sublist->qc,foldl_cons->qo,take_append_drop->q9,mem_of_mem_take->rh,getElem?_take_eq_none->rn,length_eq_zero_iff->rS,mem_map_of_mem->sC,of_mem_zip->tm,length_singleton->tz,Pairwise->tN,all_cons->tP,all_map->t9,forIn_cons->uj,forIn_nil->uB,zipIdx_cons->vw,ext_getElem?->vF,reverse_cons->wa,zip_cons_cons->wt,length_pos_iff->w_,find?_cons_of_neg->xc,getElem?_cons_zero->xf
open Ne renaming symm->b_
open Bool renaming false_eq_true->cn,not_true->gp,and_eq_true->ir,or_eq_true->kA,not_false->o3,and_true->ue,and_false->ui,false_ne_true->uk
open Option.some renaming inj->dk
open PySem.Obj renaming mapSeq->dA,mapFields->ky,data_mapFields->k_,isFreed_of_fields->qr,cls_mapFields->uv
open Int renaming le_trans->eR,le_of_lt->gN,le_refl->hG,emod_nonneg->l5,toNat_natCast->m9,emod_lt_of_pos->n9,not_lt->oS,add_assoc->sQ
open PySem.PassesOwn renaming never->fE
open Array renaming getElem?_eq_some_iff->gi,size_push->hV,getElem?_toList->ka,toList_append->kc,length_toList->kS,size_append->nh,getD_eq_getD_getElem?->oP,getElem?_eq_getElem->qV,perm_iff_toList_perm->q8,size_extract->q_,toList_inj->vn
open False renaming elim->ik
open PySem.Str renaming ofString->kF
open PySem.Around renaming under_plainId->kH
open PySem.Builtin.SmallTypes renaming nextOf->lS,ownedTupleIsFree->sF
open PySem.F renaming plain_min_loop->lT,plain_max_loop->l3,slot_dict_keyiterator_next->pk,slot_tuple_iterator_next->sD,slot_zip_next->sL,slot_dict_get->vS,plain_extend_loop->wm,entry_min_loop->w6,entry_max_loop->w9
open PySem.Value renaming isInt_shape->l8,isInt->n_
open PySem.Builtin.List renaming listExtendWith->nS,listSameRef->sx
open PySem.SeqAt renaming EqAt->og
open PySem.Walks renaming list->oD
open List.Pairwise renaming sublist->o6
open PySem.Calls renaming evalArgs_plain->qh,callWith_builtin->tx
open Function renaming comp_def->qk
open List.Perm renaming of_eq->qS,append_left->rf,append_right->vt
open PyProof.Rows.SortSt renaming mk'->rL
open Option renaming getD_some->rV,bind_some->sP,map_some->vk
open PySem.Heap.SameBut renaming update->sq
open PySem.Builtin.Builtins renaming bindParams->sN
open Prod.mk renaming injEq->vc
open Classical renaming choose->vx
open PySem.Moved renaming trans->w8
set_option Elab.async false
set_option linter.all false
set_option maxRecDepth 100000
set_option maxHeartbeats 0
noncomputable abbrev LL:=List (List Int)
noncomputable abbrev uN(x:pT):Prop:=(x == (pT.ofString "__debug__"))=false
noncomputable abbrev Rq(x:pT):Prop:=(x == (pT.ofString "__classdict__"))=false
namespace L2
open PySem PySem.Spec PyProof.Rows
noncomputable abbrev Fy:=Sum Int Str
noncomputable def aaE:Fy->aa->Bool
 | .inl k,v=>n_ k v
 | .inr x,v=>aa.isStrOf x v
noncomputable def agU(w:az):Fy->Int
 | .inl k=>hashInt k
 | .inr x=>hashStr w x
theorem dB:∀{k:Fy}{v:aa},aaE k v=true->(∃i t,k=Sum.inl i/\v=aa.int i t)∨(∃x t,k=Sum.inr x/\v=aa.str x t)
 | .inl i,v,h=>by obtain⟨t,e⟩:=l8 (k:=i) (v:=v) h;exact .inl ⟨i,t,rfl,e⟩
 | .inr x,v,h=>by obtain⟨t,e⟩:=aa.isStrOf_shape (x:=x) (v:=v) h;exact .inr ⟨x,t,rfl,e⟩
theorem abp(a b:Int):decide ((Sum.inl a:Fy)=Sum.inl b)=(a == b):=by
 by_cases e:a=b
 ·subst e;simp
 ·have h:¬(Sum.inl a:Fy)=Sum.inl b:=fun q=>e (Sum.inl.inj q);rw[decide_eq_false h];exact(beq_eq_false_iff_ne.mpr e).symm
theorem abq(a b:Str):decide ((Sum.inr a:Fy)=Sum.inr b)=decide (a=b):=by
 by_cases e:a=b
 ·subst e;simp
 ·have h:¬(Sum.inr a:Fy)=Sum.inr b:=fun q=>e (Sum.inr.inj q);rw[decide_eq_false h,decide_eq_false e]
theorem abr(a:Int)(b:Str):decide ((Sum.inl a:Fy)=Sum.inr b)=false:=decide_eq_false (fun q=>nomatch q)
theorem abt(a:Str)(b:Int):decide ((Sum.inr a:Fy)=Sum.inl b)=false:=decide_eq_false (fun q=>nomatch q)
noncomputable def Lr(prog:aE)(w:az):PySem.KeyKind prog w Fy where
  is:=aaE
  hash:=agU w
  inj:=fun v a b ha hb=>by
    rcases dB ha with ⟨i,t,rfl,rfl⟩|⟨x,t,rfl,rfl⟩
    . rcases dB hb with ⟨j,u,rfl,e⟩|⟨y,u,rfl,e⟩
      . injection e with e1 _;rw[e1]
      . exact nomatch e
    . rcases dB hb with ⟨j,u,rfl,e⟩|⟨y,u,rfl,e⟩
      . exact nomatch e
      . injection e with e1 _;rw[e1]
  byValue := fun k v h => by rcases dB h with ⟨i,t,rfl,rfl⟩|⟨x,t,rfl,rfl⟩ <;> rfl
  pyHash:=fun hv h=>by
    rcases dB hv with ⟨i,t,rfl,rfl⟩|⟨x,t,rfl,rfl⟩
    . exact wpAny_pyHash_int h
    . exact wpAny_pyHash_str h
  eqBool:=fun hu hv h=>by
    rcases dB hu with ⟨i,t,rfl,rfl⟩|⟨x,t,rfl,rfl⟩
    . rcases dB hv with ⟨j,u,rfl,rfl⟩|⟨y,u,rfl,rfl⟩
      . rw[abp]at h;exact wpAny_eqBool_int h
      . rw[abr]at h;exact og.int_str i t y u _ _ _ _ h
    . rcases dB hv with ⟨j,u,rfl,rfl⟩|⟨y,u,rfl,rfl⟩
      . rw[abt]at h;exact og.str_int x t j u _ _ _ _ h
      . rw[abq]at h;exact wpAny_eqBool_str h
  «strs»:=fun k x t v h=>by
    rcases dB h with ⟨i,u,rfl,e⟩|⟨y,u,rfl,e⟩
    . exact nomatch e
    . injection e with e1 _
      subst e1;cases v <;> rfl
inductive V where
 |non|bl (b:Bool)|int (i:Int)|str (x:Str)|byt (b:Array UInt8)|flt (b:UInt64)|ref (a:ae)|ty (n:String)
 deriving DecidableEq
noncomputable def RelV:V->aa->Prop
 | .non,u=>u=aa.none
 | .bl b,u=>u=aa.bool b
 | .int i,u=>∃t,u=aa.int i t
 | .str x,u=>∃t,u=aa.str x t
 | .byt b,u=>∃t,u=aa.bytes b t
 | .flt b,u=>∃t,u=aa.float b t
 | .ref a,u=>u=aa.ref a
 | .ty n,u=>u=aa.type n
noncomputable abbrev Vals:List V->List aa->Prop:=Paired RelV
theorem Vals.length{xs:List V}{us:List aa}(r:Vals xs us):xs.length=us.length:=Paired.length r
theorem Vals.get:∀{xs:List V}{us:List aa}{i:Nat}{x:V},Vals xs us->xs[i]?=some x->∃u,us[i]?=some u/\RelV x u
 |_,_,_,_,.nil,e=>by simp at e
 |_,_,0,_,.cons r _,e=>by simp at e;subst e;exact⟨_,rfl,r⟩
 |_,_,i + 1,x,.cons _ t,e=>by obtain⟨u,h1,h2⟩:=Vals.get (i:=i) (x:=x) t (by simpa using e);exact⟨u,by simpa using h1,h2⟩
theorem Vals.append:∀{xs ys:List V}{us ws:List aa},Vals xs us->Vals ys ws->Vals (xs++ys) (us++ws)
 |_,_,_,_,.nil,s=>s
 |_,_,_,_,.cons r t,s=>.cons r (Vals.append t s)
theorem Vals.take:∀{xs:List V}{us:List aa}(n:Nat),Vals xs us->Vals (xs.take n) (us.take n)
 |_,_,0,_=>.nil
 |_,_,_ + 1,.nil=>.nil
 |_,_,n + 1,.cons r t=>.cons r (Vals.take n t)
theorem Vals.drop:∀{xs:List V}{us:List aa}(n:Nat),Vals xs us->Vals (xs.drop n) (us.drop n)
 |_,_,0,r=>r
 |_,_,_ + 1,.nil=>.nil
 |_,_,n + 1,.cons _ t=>Vals.drop n t
theorem Vals.none_of:∀{xs:List V}{us:List aa}{i:Nat},Vals xs us->xs[i]?=none->us[i]?=none:=fun {xs us i} r e=>by have h1:=r.length;have h2:xs.length<=i:=List.getElem?_eq_none_iff.mp e;exact List.getElem?_eq_none_iff.mpr (by lia)
noncomputable def aei:Option V->Option aa->Prop
 |some v,some u=>RelV v u
 |none,none=>True
 |_,_=>False
noncomputable def KV{κ:Type}:List (κ×V)->List (κ×aa)->Prop:=Paired fun(p:κ×V) (q:κ×aa)=>p.1=q.1/\RelV p.2 q.2
noncomputable def kV:Fy->V
 | .inl i=>.int i
 | .inr x=>.str x
inductive HO where
 /-- a list -/
 |lst (xs:List V)
 /-- a tuple (never changes) -/
 |tup (xs:List V)
 /-- a dict whose keys are ints and texts;one whose keys are tuples of ints and texts (the empty one is both) -/
 |dK (kvs:List (Fy×V))|dT (kvs:List (List Fy×V))
 /-- a set of ints: its members,its size -/
 |set (S:Int->Bool) (n:Nat)
 /-- an instance of the class at C,its dict at dx,its attributes -/
 |ins (C dx:ae) (fs:List (Str×V))
 /-- the dict of the instance at x -/
 |own (x:ae)
 /-- the dict of an exception -/
 |xd (fs:List (Str×V))
 /-- a bound method,f of x -/
 |met (f x:ae)
 /-- a range object lo,lo + 1,.. below hi -/
 |rng (lo hi:Int)
 /-- a thing that is known to the object (the script;a dict while a loop walks it): read,never written while it is so -/
 |yt (o:Obj) (u:HO)
 /-- a code object's table -/
 |tbl (ps:Array aa)
 |tab (q:Str)|Fz (q:Str)
 /-- any other thing,by what is true of its one object (a def of one's own: agW a S n:=HO.ext fun h=>..) -/
 |ext (φ:Heap->Prop)
noncomputable abbrev Hp:=ae->Option HO
noncomputable def upd(H:Hp)(a:ae)(o:HO):Hp:=fun b=>if b=a then some o else H b
theorem aW{H:Hp}{a:ae}{o:HO}:upd H a o a=some o:=by unfold upd;rw[if_pos rfl]
theorem aK{H:Hp}{a b:ae}{o:HO}(h:b≠a):upd H a o b=H b:=by unfold upd;rw[if_neg h]
theorem aP{H:Hp}{a b:ae}{o:HO}(h:H a=some o)(h':H b=none):a≠b:=by intro e;subst e;rw[h]at h';cases h'
section
variable(P:aE)(w:az)
noncomputable def dW(H:Hp)(h:Heap)(a:ae):HO->Prop
 | .lst xs=>xs.length<=sizeLine/\∃(its:List aa) (n:Nat),Vals xs its/\h.get? a=some { cls:=.type "list",data:=.seq its.toArray n }
 | .tup xs=>xs.length<=sizeLine/\∃its:List aa,Vals xs its/\IsTup h a its.toArray
 | .dK kvs=>kvs.length<=sizeLine/\(a == ij)=false/\∃vs,KV kvs vs/\h.DictOf (Lr P w) a vs
 | .dT kvs=>kvs.length<=sizeLine/\(a == ij)=false/\∃xs:List (List Fy×ae×aa),
   Paired (fun(p:List Fy×V) (q:List Fy×ae×aa)=>p.1=q.1/\H q.2.1=some (.tup (p.1.map kV))/\RelV p.2 q.2.2) kvs xs /\
   ∃o es ep,h.get? a=some o/\o.ExactDict/\o.data=.dict es ep/\es.toList=xs.map (entryOfKey (pV (Lr P w)))/\(xs.map (·.1)).Nodup
 | .set S n=>h.SetOf (de P w) a S n
 | .ins C dx fs=>H dx=some (.own a)/\fs.length<=1000/\dx≠a/\h.get? a=some (PySem.W.instObj C dx) /\
   ∃mA,h.Ns1 dx mA/\(∀f,aei (fs.lookup f) (mA f))/\PySem.Within mA (fs.map (·.1))
 | .own _=>∃o,h.get? a=some o
 | .xd fs=>∃mA,h.Ns1 a mA/\∀f,aei (fs.lookup f) (mA f)
 | .rng lo hi=>∃t u v,h.get? a=some { cls:=.type "range",data:=.fields #[.int lo t,.int hi u,.int 1 v] }
 | .yt o u=>h.get? a=some o/\dW H h a u
 | .tbl ps=>h.get? a=some { cls:=.none,data:=.fields ps }
 | .tab q=>∃ps:Array aa,h.get? a=some { cls:=.none,data:=.fields ps }/\TriplesOk ps.toList/\∀pos v,l9 pos ps.toList=some v->∃c,v=.ref c/\H c=some (.Fz q)
 | .Fz q=>∃o vs t,h.get? a=some o/\o.data=.fields vs/\vs[1]?=some (.str q t)
 | .met f x=>h.get? a=some (p7 (.ref f) (.ref x))
 | .ext φ=>φ h/\(∃o,h.get? a=some o)/\∀h1 h2:Heap,φ h1->(∀o,h1.get? a=some o->h2.get? a=some o)->φ h2
noncomputable def tU(H:Hp)(h:Heap):Prop:=∀a o,H a=some o->dW P w H h a o
end
section
variable{P:aE}{w:az}{H H':Hp}{h h':Heap}{a:ae}{o:HO}
theorem dW.lt(x:dW P w H h a o):a < h.objs.size:=by
 cases o with
 |lst xs=>obtain⟨_,_,_,_,e⟩:=x;exact bE e
 |tup xs=>obtain⟨_,_,_,p⟩:=x;exact p.lt
 |dK kvs=>obtain⟨_,_,_,_,o,_,_,e,_⟩:=x;exact bE e
 |dT kvs=>obtain⟨_,_,_,_,o,_,_,e,_⟩:=x;exact bE e
 |set S n=>obtain⟨o,_,_,_,e,_⟩:=x;exact bE e
 |ins C dx fs=>obtain⟨_,_,_,e,_⟩:=x;exact bE e
 |own y=>obtain⟨_,e⟩:=x;exact bE e
 |xd fs=>obtain⟨_,⟨_,_,_,e,_⟩,_⟩:=x;exact bE e
 |rng lo hi=>obtain⟨_,_,_,e⟩:=x;exact bE e
 |yt ob u=>obtain⟨e,_⟩:=x;exact bE e
 |tbl ps=>exact bE (show h.get? a=some _ from x)
 |tab q=>obtain⟨_,e,_⟩:=x;exact bE e
 |Fz q=>obtain⟨_,_,_,e,_⟩:=x;exact bE e
 |met f y=>exact bE (show h.get? a=some _ from x)
 |ext φ=>obtain⟨_,⟨_,e⟩,_⟩:=x;exact bE e
theorem Paired.abu{α β:Type}{F G:α->β->Prop}:∀{l₁:List α}{l₂:List β},Paired F l₁ l₂->(∀a b,F a b->G a b)->Paired G l₁ l₂
 |_,_,.nil,_=>.nil
 |_,_,.cons r t,f=>.cons (f _ _ r) (Paired.abu t f)
theorem dW.stay(x:dW P w H h a o)(k:∀b u,(b=a∨H b=some (.own a))->h.get? b=some u->h'.get? b=some u)
  (ho:∀b,H b=some (.own a)->H' b=some (.own a)) (ht:∀b xs,H b=some (.tup xs)->H' b=some (.tup xs)) (abv:∀b q,H b=some (.Fz q)->H' b=some (.Fz q)):dW P w H' h' a o:=by
 induction o with
 |lst xs=>obtain⟨z,its,n,r,e⟩:=x;exact⟨z,its,n,r,k _ _ (.inl rfl) e⟩
 |tup xs=>obtain⟨z,its,r,ob,e,c⟩:=x;exact⟨z,its,r,ob,k _ _ (.inl rfl) e,c⟩
 |dK kvs=>obtain⟨z,y,vs,r,ob,es,ep,e,c⟩:=x;exact⟨z,y,vs,r,ob,es,ep,k _ _ (.inl rfl) e,c⟩
 |dT kvs =>
  obtain⟨z,y,xs,r,ob,es,ep,e,c⟩:=x;exact⟨z,y,xs,Paired.abu r fun p q z=>⟨z.1,ht _ _ z.2.1,z.2.2⟩,ob,es,ep,k _ _ (.inl rfl) e,c⟩
 |set S n=>obtain⟨ob,es,ep,t,e,c⟩:=x;exact⟨ob,es,ep,t,k _ _ (.inl rfl) e,c⟩
 |ins C dx fs =>
  obtain⟨d,z,ne,e,mA,⟨od,es,ep,e2,c⟩,r⟩:=x;exact⟨ho _ d,z,ne,k _ _ (.inl rfl) e,mA,⟨od,es,ep,k _ _ (.inr d) e2,c⟩,r⟩
 |own y=>obtain⟨ob,e⟩:=x;exact⟨ob,k _ _ (.inl rfl) e⟩
 |xd fs=>obtain⟨mA,⟨od,es,ep,e,c⟩,r⟩:=x;exact⟨mA,⟨od,es,ep,k _ _ (.inl rfl) e,c⟩,r⟩
 |rng lo hi=>obtain⟨t,u,v,e⟩:=x;exact⟨t,u,v,k _ _ (.inl rfl) e⟩
 |yt ob u ih=>obtain⟨e,q⟩:=x;exact⟨k _ _ (.inl rfl) e,ih q⟩
 |tbl ps =>
  have e:h.get? a=some { cls:=.none,data:=.fields ps }:=x;show h'.get? a=some { cls:=.none,data:=.fields ps };exact k a _ (.inl rfl) e
 |tab q =>
  obtain⟨ps,e,t,c⟩:=x;exact⟨ps,k _ _ (.inl rfl) e,t,fun pos v z=>let ⟨c',e1,e2⟩:=c pos v z;⟨c',e1,abv _ _ e2⟩⟩
 |Fz q=>obtain⟨o,vs,t,e,r⟩:=x;exact⟨o,vs,t,k _ _ (.inl rfl) e,r⟩
 |met f y =>
  have e:h.get? a=some (p7 (.ref f) (.ref y)):=x;show h'.get? a=some (p7 (.ref f) (.ref y));exact k a _ (.inl rfl) e
 |ext φ=>obtain⟨p,⟨o,e⟩,st⟩:=x;exact⟨st _ _ p fun o q=>k _ _ (.inl rfl) q,⟨o,k _ _ (.inl rfl) e⟩,st⟩
theorem tU.lt(x:tU P w H h)(e:H a=some o):a < h.objs.size:=(x a o e).lt
theorem tU.fresh(x:tU P w H h)(e:h.objs.size<=a):H a=none:=by
 cases q:H a with
 |none=>rfl
 |some u=>exact absurd (dm (x.lt q) e) (fw _)
theorem tU.kept(x:tU P w H h)(k:∀b u,h.get? b=some u->h'.get? b=some u):tU P w H h':=fun a o e =>
 (x a o e).stay (fun b u _ q=>k b u q) (fun _ q=>q) (fun _ _ q=>q) fun _ _ q=>q
theorem tU.laid(x:tU P w H h)(k:∀b u,h.get? b=some u->h'.get? b=some u)(hp:h.objs.size<=a)(new:dW P w (upd H a o) h' a o):tU P w (upd H a o) h':=fun b u e=>by
 have hn:=x.fresh hp;by_cases hb:b=a
 ·subst hb;rw[aW]at e;cases e;exact new
 ·rw[aK hb]at e;exact(x b u e).stay (fun c v _ q=>k c v q) (fun c q=>by rw[aK (aP q hn)];exact q) (fun c xs q=>by rw[aK (aP q hn)];exact q) fun c xs q=>by rw[aK (aP q hn)];exact q
end
noncomputable def Rd(H:Hp)(a:ae)(u:HO):Prop:=H a=some u∨∃o,H a=some (.yt o u)
theorem Rd.of{H:Hp}{a:ae}{u:HO}(h:H a=some u):Rd H a u:=.inl h
theorem Rd.ok{P:aE}{w:az}{H:Hp}{h:Heap}{a:ae}{u:HO}(r:Rd H a u)(x:tU P w H h):dW P w H h a u:=by
 rcases r with r|⟨o,r⟩
 ·exact x a u r
 ·obtain⟨_,q⟩:=x a _ r;exact q
noncomputable def Mut:Option HO->Prop
 |some (.lst _)=>True
 |some (.dK _)=>True
 |some (.dT _)=>True
 |some (.set _ _)=>True
 |some (.ins _ _ _)=>True
 |some (.ext _)=>True
 |some (.tab _)=>True
 |_=>False
section
variable{P:aE}{w:az}{H:Hp}{h h':Heap}{x e:ae}{o':HO}
theorem tU.write(ok:tU P w H h)(mu:Mut (H x))(he:e=x∨H e=some (.own x))(k:∀b u,b≠e->h.get? b=some u->h'.get? b=some u)(heo:∃u,h'.get? e=some u)
  (new:dW P w (upd H x o') h' x o'):tU P w (upd H x o') h':=fun b u q=>by
 have aej:∀c y,H c=some (.own y)->c≠x:=fun c y r z=>by subst z;rw[r]at mu;exact mu
 have agX:∀c xs,H c=some (.tup xs)->c≠x:=fun c xs r z=>by subst z;rw[r]at mu;exact mu
 have agY:∀c q,H c=some (.Fz q)->c≠x:=fun c q r z=>by subst z;rw[r]at mu;exact mu
 by_cases hb:b=x
 ·subst hb;rw[aW]at q;cases q;exact new
 ·rw[aK hb]at q;by_cases hbe:b=e
  ·have q':H b=some (.own x):=by
    rcases he with z|z
    ·exact absurd (hbe.trans z) hb
    ·rw[hbe];exact z
   rw[q]at q';cases q';obtain⟨v,hv⟩:=heo;exact⟨v,by rw[hbe];exact hv⟩
  ·refine(ok b u q).stay (fun c v hc r=>k c v ?_ r) (fun c r=>by rw[aK (aej c b r)];exact r) (fun c xs r=>by rw[aK (agX c xs r)];exact r) fun c q r=>by rw[aK (agY c q r)];exact r
   rcases hc with rfl|hc
   ·exact hbe
   ·rintro rfl;rcases he with z|z
    ·exact aej c b hc z
    ·rw[hc]at z;cases z;exact hb rfl
end
structure Un (fs ex:List ae)(H H':Hp)(h h':Heap):Prop where
 keep:∀b o,h.get? b=some o->H b=none->b∉fs->b∉ex->h'.get? b=some o
 slot:∀b o,h.get? b=some o->H b=none->b∈fs->b∉ex->∃sl,h'.get? b=some { o with slots:=sl }
 free:∀b o,h.get? b=some o->H b=none->b∉ex->H' b=none
 there:∀b o,h.get? b=some o->b∉ex->∃o',h'.get? b=some o'
 tups:∀b xs,H b=some (.tup xs)->H' b=some (.tup xs)
 uO:∀b o u,H b=some (.yt o u)->H' b=some (.yt o u)
 wL:∀b ps,H b=some (.tbl ps)->∃more,H' b=some (.tbl (ps++more))
section
variable{fs fs' ex ex':List ae}{H H1 H2:Hp}{h h1 h2 h':Heap}{a x e:ae}{o:HO}
theorem Un.any(u:Un fs ex H H1 h h1){b:ae}{ob:Obj}(q:h.get? b=some ob)(n:H b=none)(hx:b∉ex):∃sl,h1.get? b=some { ob with slots:=sl }:=by
 by_cases hb:b∈fs
 ·exact u.slot b ob q n hb hx
 ·exact⟨ob.slots,u.keep b ob q n hb hx⟩
theorem Un.kept(k:∀b u,h.get? b=some u->h'.get? b=some u):Un fs ex H H h h' :=
 ⟨fun b ob q _ _ _=>k b ob q,fun b ob q _ _ _=>⟨ob.slots,k b ob q⟩,fun _ _ _ n _=>n,fun b ob q _=>⟨ob,k b ob q⟩,fun _ _ q=>q,fun _ _ _ q=>q,fun _ ps q=>⟨#[],by rw[q];simp⟩⟩
theorem Un.refl:Un fs ex H H h h:=Un.kept fun _ _ q=>q
theorem Un.laid(k:∀b u,h.get? b=some u->h'.get? b=some u)(hp:h.objs.size<=a)(hn:H a=none):Un fs ex H (upd H a o) h h' where
 keep:=fun b u q _ _ _=>k b u q
 slot:=fun b u q _ _ _=>⟨u.slots,k b u q⟩
 free:=fun b u q n _=>by rw[aK (ck (dm (bE q) hp))];exact n
 there:=fun b u q _=>⟨u,k b u q⟩
 tups:=fun b xs q=>by rw[aK (aP q hn)];exact q
 uO:=fun b u xs q=>by rw[aK (aP q hn)];exact q
 wL:=fun b ps q=>⟨#[],by rw[aK (aP q hn),q];simp⟩
theorem Un.write(mu:Mut (H x))(he:e=x∨H e=some (.own x))(k:∀b u,b≠e->h.get? b=some u->h'.get? b=some u)(heo:∃u,h'.get? e=some u):Un fs ex H (upd H x o) h h':=by
 have hx:∀b,H b=none->b≠x:=fun b n z=>by subst z;rw[n]at mu;exact mu
 have hb:∀b,H b=none->b≠e:=fun b n z=>by
  subst z;rcases he with r|r
  ·exact hx b n r
  ·rw[n]at r;cases r
 have hm:∀b u,H b=some u->¬Mut (some u)->b≠x:=fun b u q nm z=>by subst z;rw[q]at mu;exact nm mu
 refine⟨fun b u q n _ _=>k b u (hb b n) q,fun b u q n _ _=>⟨u.slots,k b u (hb b n) q⟩,fun b u q n _=>by rw[aK (hx b n)];exact n,fun b u q _=>?_,
  fun b xs q=>by rw[aK (hm b _ q fun z=>z)];exact q,fun b u xs q=>by rw[aK (hm b _ q fun z=>z)];exact q,fun b ps q=>⟨#[],by rw[aK (hm b _ q fun z=>z),q];simp⟩⟩
 by_cases hbe:b=e
 ·subst hbe;exact heo
 ·exact⟨u,k b u hbe q⟩
end
noncomputable def trk(h:Heap)(H:Hp):List ae:=(cz h.objs.size).filter fun a=>(H a).isSome
noncomputable def Cw(h:Heap)(H:Hp):Heap:=kM h (trk h H)
theorem OD(h:Heap)(H:Hp):(Cw h H).objs.size=h.objs.size:=PySem.W.hideAll_size _ _
theorem Rr{h:Heap}{H:Hp}{b:ae}{o:Obj}(e:h.get? b=some o)(n:H b=none):(Cw h H).get? b=some o :=
 sR _ e fun hm=>by have q:(H b).isSome=true:=(f_.mp hm).2;rw[n]at q;simp at q
theorem Ye{h:Heap}{H:Hp}{b:ae}{o:Obj}(e:(Cw h H).get? b=some o):h.get? b=some o/\H b=none:=by
 have e':h.get? b=some o:=sT (trk h H) e;refine⟨e',?_⟩;cases q:H b with
 |none=>rfl
 |some x =>
  have hm:b∈trk h H:=f_.mpr ⟨iS.mpr (bE e'),by simp[q]⟩;have z:(Cw h H).get? b=none:=s_ (trk h H) hm;rw[z]at e;cases e
noncomputable def Ls(g h:Heap)(L:ae):List (ae×Obj):=(cz h.objs.size).filterMap fun a=>if a=L∨(g.get? a).isSome=true then none else (h.get? a).map fun o=>(a,o)
theorem FQ{g h:Heap}{L a:ae}{o:Obj}(h1:a≠L)(h2:g.get? a=none)(h3:h.get? a=some o):(a,o)∈Ls g h L :=
 oi.mpr ⟨a,iS.mpr (bE h3),by simp[h1,h2,h3]⟩
noncomputable def cj(g h:Heap)(L d:ae):List (ae×Obj):=(Ls g h L).filter fun p=>decide (p.1≠d)
theorem yu{g h:Heap}{L d a:ae}{o:Obj}(h1:a≠L)(h2:g.get? a=none)(h3:h.get? a=some o)(h4:a≠d):(a,o)∈cj g h L d :=
 f_.mpr ⟨FQ h1 h2 h3,decide_eq_true h4⟩
structure Mod (K:ai)(mg:Str->Option aa)(base:Heap):Prop where
 Rt:K.In base
 glob:base.Ns bu mg
 blt:∃mb,base.Ns builtinsNs mb/\∀x:Str,x≠"__name__"->mb x=gT x
 nolimit:base.NoLimit
 bm:∃bm ob,mg "__builtins__"=some (.ref bm)/\bm≠builtinsNs/\base.get? bm=some ob/\ob.cls=.type "module"/\ob.dict=some builtinsNs/\ob.data=.plain
structure Cx where
 prog:aE
 w:az
 K:ai
 mg:Str->Option aa
 base:Heap
 A:aI
 N:List Str
 s₀:af
 H₀:Hp
 env:Env
 outer:List Env
 stack:List Env
 ex:List ae
 fn:Str->Bool
 calm:Bool
 pn:List (ae×Obj)
 xe:aa->af->Prop
noncomputable def oZ(l:List Env):List ae:=l.filterMap (·.frame)
noncomputable abbrev Cx.fs(X:Cx):List ae:=oZ X.outer
noncomputable def Ri(sc:Scope)(x:Str):Prop:=sc.names.lookup x=some .local∨sc.names.lookup x=some .cell∨sc.names.lookup x=some .free
noncomputable def FT(sc:Scope)(x:Str):Prop:=sc.names.lookup x=some .local∨sc.names.lookup x=some .cell
noncomputable def agZ(env:Env)(h:Heap)(m:Str->Option aa)(x:Str)(u:aa):Prop :=
 (env.kindOf x=some .local/\m x=some u)∨((env.kindOf x=some .cell∨env.kindOf x=some .free)/\∃c,env.cells.lookup x=some c/\h.IsCell c (some u))
structure Cx.Ok (X:Cx):Prop where
 mod:Mod X.K X.mg X.base
 kind:X.env.scope.kind=.function
 glob:X.env.globals=bu
 blt:X.env.builtins=builtinsNs
 above:X.s₀.heap.objs.size<=X.env.locals
 inj:∀x y c,X.env.cells.lookup x=some c->X.env.cells.lookup y=some c->x=y
 has:∀x,(X.env.kindOf x=some .cell∨X.env.kindOf x=some .free)->∃c,X.env.cells.lookup x=some c
 cab:∀x c,X.fn x=true->X.env.cells.lookup x=some c->X.s₀.heap.objs.size<=c
 hd:X.calm=true->X.A.handled=none
 frames:X.A.frames=some X.stack
 stk:X.stack=X.outer∨(X.stack=X.env::X.outer/\X.env.frame=some X.env.locals)
 exf:∀b∈X.ex,b≠X.env.locals/\∀x c,X.env.cells.lookup x=some c->c≠b
 bs:∀b o,X.base.get? b=some o->X.s₀.heap.get? b=some o/\X.H₀ b=none
 Ru:X.base.objs.size<=X.s₀.heap.objs.size
 Cy:∀b o,X.base.get? b=some o->b∉X.ex
 OJ:∀b∈X.ex,b∉X.fs
 uP:X.s₀.heap.FunFrames X.base X.outer
 frf:∀b∈X.fs,X.H₀ b=none
structure Inv (X:Cx)(pins:List (ae×Obj))(σ:List (Option V))(H:Hp)(s:af):Prop where
 ok:X.Ok
 os:s.os=X.s₀.os
 bare:kN s.gens
 base:Un X.fs X.ex X.H₀ H X.s₀.heap s.heap
 loc:∃m,s.heap.Ns X.env.locals m/\∀(i:Nat) (x:Str) (v:V),X.N[i]?=some x->σ[i]?=some (some v)->Ri X.env.scope x->∃u,RelV v u/\agZ X.env s.heap m x u
 cell:∀x c,X.env.cells.lookup x=some c->∃v,s.heap.IsCell c v
 free:H X.env.locals=none
 jF:∀x c,X.env.cells.lookup x=some c->H c=none
 pin:∀p∈X.pn++pins,s.heap.get? p.1=some p.2/\H p.1=none/\p.1≠X.env.locals/\p.1∉X.fs/\∀v,p.2.data≠.cell v
 hok:tU X.prog X.w H s.heap
 len:σ.length=X.N.length
section
variable{X:Cx}{pins:List (ae×Obj)}{σ:List (Option V)}{H H':Hp}{s:af}{h':Heap}
theorem Cx.Ok.abw(ok:X.Ok){b:ae}{o:Obj}(e:X.base.get? b=some o):b∉X.fs:=fun hb=>by have:=(ok.uP.mem hb).1;rw[e]at this;cases this
theorem Inv.bs(I:Inv X pins σ H s):∀b o,X.base.get? b=some o->s.heap.get? b=some o/\H b=none:=fun b o e =>
 ⟨I.base.keep b o (I.ok.bs b o e).1 (I.ok.bs b o e).2 (I.ok.abw e) (I.ok.Cy b o e),I.base.free b o (I.ok.bs b o e).1 (I.ok.bs b o e).2 (I.ok.Cy b o e)⟩
theorem Inv.bk(I:Inv X pins σ H s):∀b o,X.base.get? b=some o->s.heap.get? b=some o:=fun b o e=>(I.bs b o e).1
theorem Inv.mod(I:Inv X pins σ H s):Mod X.K X.mg X.base:=I.ok.mod
theorem Inv.Jl(I:Inv X pins σ H s):X.K.In s.heap:=I.ok.mod.Rt.keeps I.bk
theorem Inv.lt(I:Inv X pins σ H s):X.env.locals < s.heap.objs.size:=let ⟨_,hn,_⟩:=I.loc;hn.lt
theorem Inv.sz(I:Inv X pins σ H s):X.s₀.heap.objs.size<=s.heap.objs.size:=et I.ok.above (iX I.lt)
theorem Inv.Rv(I:Inv X pins σ H s){a:ae}(h:s.heap.objs.size<=a):a∉X.fs:=fun hb=>by obtain⟨_,o,ho,_⟩:=I.ok.uP.mem hb;exact absurd (dm (bE ho) (et I.sz h)) (fw _)
theorem Inv.Rw(I:Inv X pins σ H s):∀x c,X.env.cells.lookup x=some c->c≠X.env.locals:=fun x c e z=>by obtain⟨v,o,ho,hd⟩:=I.cell x c e;obtain⟨m,⟨o',es,ep,ho',hd',_⟩,_⟩:=I.loc;rw[z,ho']at ho;cases ho;rw[hd']at hd;cases hd
theorem Inv.uP(I:Inv X pins σ H s):s.heap.FunFrames X.base X.outer:=by
 have all:∀(l:List Env),(∀b∈oZ l,b∈X.fs)->X.s₀.heap.FunFrames X.base l->s.heap.FunFrames X.base l:=by
  intro l
  induction l with
  |nil=>intro _ _;trivial
  |cons env r ih =>
   intro hs hl;obtain⟨hk,⟨L,o,hf,hn,ho,hd⟩,hr⟩:=hl;have hL:L∈X.fs:=hs L (by unfold oZ;rw[l_,hf];exact dC);obtain⟨sl,e⟩:=I.base.slot L o ho (I.ok.frf L hL) hL fun z=>I.ok.OJ L z hL;exact⟨hk,⟨L,_,hf,hn,e,hd⟩,ih (fun b hb=>hs b (by unfold oZ;rw[l_,hf];exact dP _ hb)) hr⟩
 exact all X.outer (fun _ hb=>hb) I.ok.uP
theorem Inv.stack(I:Inv X pins σ H s):s.heap.FunFrames X.base X.stack:=by
 rcases I.ok.stk with e|⟨e,hf⟩
 ·rw[e];exact I.uP
 ·rw[e];obtain⟨m,hn,_⟩:=I.loc;refine .cons (by rw[I.ok.kind];decide) hf hn ?_ I.uP;exact Heap.get?_none_of_le (et I.ok.Ru I.ok.above)
theorem Inv.sS(I:Inv X pins σ H s):∀b∈oZ X.stack,b∈X.env.locals::X.fs:=fun b hb=>by
 rcases I.ok.stk with e|⟨e,hf⟩
 ·rw[e]at hb;exact dP _ hb
 ·rw[e]at hb;unfold oZ at hb;rw[l_,hf]at hb;exact hb
theorem Inv.xP(I:Inv X pins σ H s):∀b∈oZ X.stack,H b=none:=fun b hb=>by
 rcases bP.mp (I.sS b hb) with e|hb
 ·rw[e];exact I.free
 ·obtain⟨_,o,ho,_⟩:=I.ok.uP.mem hb;exact I.base.free b o ho (I.ok.frf b hb) fun z=>I.ok.OJ b z hb
theorem Inv.step{g':Array kP}{t':Nat}{d':Drawn}{ch:List ae}(I:Inv X pins σ H s)
  (hch:∀b∈ch,(b∈X.ex∨X.s₀.heap.objs.size<=b)/\b≠X.env.locals/\(∀x c,X.env.cells.lookup x=some c->c≠b)/\∀p∈X.pn++pins,p.1≠b)
  (keep:∀b o,b≠X.env.locals->b∉X.fs->b∉ch->s.heap.get? b=some o->H b=none->h'.get? b=some o)
  (slot:∀b o,b≠X.env.locals->b∈X.fs->b∉ch->s.heap.get? b=some o->H b=none->∃sl,h'.get? b=some { o with slots:=sl }) (free:∀b o,b∉ch->s.heap.get? b=some o->H b=none->H' b=none)
  (there:∀b o,b∉ch->s.heap.get? b=some o->∃o',h'.get? b=some o')
  (tups:∀b xs,H b=some (.tup xs)->H' b=some (.tup xs)) (uO:∀b o u,H b=some (.yt o u)->H' b=some (.yt o u)) (wL:∀b ps,H b=some (.tbl ps)->∃more,H' b=some (.tbl (ps++more)))
  (ns:∀m,s.heap.Ns X.env.locals m->h'.Ns X.env.locals m) (hok:tU X.prog X.w H' h') (hg:kN g') :
  Inv X pins σ H' { s with heap:=h',gens:=g',drawn:=d',toks:=t' }:=by
 have neL:∀b o,X.s₀.heap.get? b=some o->b≠X.env.locals:=fun b o e=>ck (dm (bE e) I.ok.above);have neC:∀b o,X.s₀.heap.get? b=some o->b∉X.ex->b∉ch:=fun b o e hx hb=>by
  rcases(hch b hb).1 with z|z
  ·exact hx z
  ·exact absurd (dm (bE e) z) (fw _)
 have cellK:∀x c,X.env.cells.lookup x=some c->∀v,s.heap.IsCell c v->h'.IsCell c v:=fun x c e v ⟨o,ho,hd⟩=>by
  have Lw:c∉ch:=fun z=>(hch c z).2.2.1 x c e rfl;by_cases hc:c∈X.fs
  ·obtain⟨sl,q⟩:=slot c o (I.Rw x c e) hc Lw ho (I.jF x c e);exact⟨_,q,hd⟩
  ·exact⟨o,keep c o (I.Rw x c e) hc Lw ho (I.jF x c e),hd⟩
 refine⟨I.ok,I.os,hg,⟨fun b o e n hb hx=>?_,fun b o e n hb hx=>?_,fun b o e n hx=>?_,fun b o e hx=>?_,fun b xs e=>tups b xs (I.base.tups b xs e),fun b o xs e=>uO b o xs (I.base.uO b o xs e),fun b ps e=>?_⟩,?_,fun x c e=>?_,?_,fun x c e=>?_,fun p hp=>?_,hok,I.len⟩
 ·exact keep b o (neL b o e) hb (neC b o e hx) (I.base.keep b o e n hb hx) (I.base.free b o e n hx)
 ·obtain⟨sl,e1⟩:=I.base.slot b o e n hb hx;obtain⟨sl',e2⟩:=slot b _ (neL b o e) hb (neC b o e hx) e1 (I.base.free b o e n hx);exact⟨sl',e2⟩
 ·obtain⟨o',e1⟩:=I.base.there b o e hx;exact free b o' (neC b o e hx) e1 (I.base.free b o e n hx)
 ·obtain⟨o',e1⟩:=I.base.there b o e hx;exact there b o' (neC b o e hx) e1
 ·obtain⟨m1,e1⟩:=I.base.wL b ps e;obtain⟨m2,e2⟩:=wL b _ e1;exact⟨m1++m2,by rw[e2,Array.append_assoc]⟩
 ·obtain⟨m,hn,hl⟩:=I.loc;refine⟨m,ns m hn,fun i x v e1 e2 e3=>?_⟩;obtain⟨u,r,l⟩:=hl i x v e1 e2 e3;refine⟨u,r,?_⟩;rcases l with l|⟨k,c,e,z⟩
  ·exact .inl l
  ·exact .inr ⟨k,c,e,cellK x c e _ z⟩
 ·obtain⟨v,z⟩:=I.cell x c e;exact⟨v,cellK x c e v z⟩
 ·obtain⟨m,⟨o,_,_,ho,_⟩,_⟩:=I.loc;exact free _ o (fun z=>(hch _ z).2.1 rfl) ho I.free
 ·obtain⟨v,o,ho,hd⟩:=I.cell x c e;exact free c o (fun z=>(hch c z).2.2.1 x c e rfl) ho (I.jF x c e)
 ·obtain⟨e,n,ne,nf,d⟩:=I.pin p hp;have Lw:p.1∉ch:=fun z=>(hch p.1 z).2.2.2 p hp rfl;exact⟨keep p.1 p.2 ne nf Lw e n,free p.1 p.2 Lw e n,ne,nf,d⟩
theorem Inv.un{t':Nat}(I:Inv X pins σ H s)(u:Un X.fs [] H H' s.heap h')(hok:tU X.prog X.w H' h'):Inv X pins σ H' { s with heap:=h',toks:=t' }:=by
 obtain⟨m,⟨o,es,ep,ho,r⟩,_⟩:=id I.loc;obtain⟨sl,hL⟩:=u.any ho I.free (by simp);exact I.step (g':=s.gens) (d':=s.drawn) (ch:=[]) (fun _ z=>nomatch z) (fun b o _ hb _ e n=>u.keep b o e n hb (by simp)) (fun b o _ hb _ e n=>u.slot b o e n hb (by simp)) (fun b o _ e n=>u.free b o e n (by simp)) (fun b o _ e=>u.there b o e (by simp)) u.tups u.uO u.wL (fun m' hm=>by
  obtain⟨o',es',ep',ho',r'⟩:=hm;rw[ho]at ho';cases ho';exact⟨_,es',ep',hL,r'⟩) hok I.bare
theorem Inv.call{g':Array kP}{t':Nat}{d':Drawn}{ch:List ae}(I:Inv X pins σ H s)(u:Un (oZ X.stack) ch H H' s.heap h')(hok:tU X.prog X.w H' h')(hg:kN g')
  (hch:∀b∈ch,(b∈X.ex∨X.s₀.heap.objs.size<=b)/\b≠X.env.locals/\(∀x c,X.env.cells.lookup x=some c->c≠b)/\∀p∈X.pn++pins,p.1≠b) :
  Inv X pins σ H' { s with heap:=h',gens:=g',drawn:=d',toks:=t' }:=by
 obtain⟨m,⟨o,es,ep,ho,r⟩,_⟩:=id I.loc;obtain⟨sl,hL⟩:=u.any ho I.free fun z=>(hch _ z).2.1 rfl;exact I.step (ch:=ch) hch (fun b o hL hb hc e n=>u.keep b o e n (fun z=>(bP.mp (I.sS b z)).elim hL hb) hc) (fun b o _ _ hc e n=>u.any e n hc) (fun b o hc e n=>u.free b o e n hc) (fun b o hc e=>u.there b o e hc) u.tups u.uO u.wL (fun m' hm=>by
  obtain⟨o',es',ep',ho',r'⟩:=hm;rw[ho]at ho';cases ho';exact⟨_,es',ep',hL,r'⟩) hok hg
theorem Inv.turned{t':Nat}{it:ae}(I:Inv X pins σ H s)(k:∀b o,b≠it->s.heap.get? b=some o->h'.get? b=some o)(hn:H it=none)(hL:it≠X.env.locals)
  (h1:it∈X.ex∨X.s₀.heap.objs.size<=it) (h2:∀x c,X.env.cells.lookup x=some c->c≠it) (h3:∀p∈X.pn++pins,p.1≠it):Inv X pins σ H { s with heap:=h',toks:=t' }:=by
 have nit:∀b u,H b=some u->b≠it:=fun b u e z=>by rw[z,hn]at e;cases e
 refine I.step (g':=s.gens) (d':=s.drawn) (ch:=[it]) (fun b hb=>?_) (fun b o _ _ hc e _=>k b o (fun z=>hc (by simp[z])) e) (fun b o _ _ hc e _=>⟨o.slots,k b o (fun z=>hc (by simp[z])) e⟩) (fun _ _ _ _ n=>n)
  (fun b o hc e=>⟨o,k b o (fun z=>hc (by simp[z])) e⟩) (fun _ _ e=>e) (fun _ _ _ e=>e) (fun b ps e=>⟨#[],by rw[e];simp⟩) (fun m hm=>?_) (fun b u e=>?_) I.bare
 ·have e:b=it:=by simpa using hb
  subst e;exact⟨h1,hL,h2,h3⟩
 ·obtain⟨o,es,ep,ho,r⟩:=hm;exact⟨o,es,ep,k _ o (b_ hL) ho,r⟩
 ·refine(I.hok b u e).stay (fun c v hc q=>k c v ?_ q) (fun _ q=>q) (fun _ _ q=>q) fun _ _ q=>q;rcases hc with z|z
  ·rw[z];exact nit b u e
  ·exact nit c _ z
theorem Inv.tok(I:Inv X pins σ H s)(t:Nat):Inv X pins σ H { s with toks:=t }:=I.un (h':=s.heap) (t':=t) Un.refl I.hok
theorem Inv.kept{t':Nat}(I:Inv X pins σ H s)(k:∀b u,s.heap.get? b=some u->h'.get? b=some u):Inv X pins σ H { s with heap:=h',toks:=t' }:=I.un (Un.kept k) (I.hok.kept k)
theorem Inv.laid{a:ae}{o:HO}{t':Nat}(I:Inv X pins σ H s)(k:∀b u,s.heap.get? b=some u->h'.get? b=some u)(hp:s.heap.objs.size<=a)(new:dW X.prog X.w (upd H a o) h' a o) :
  Inv X pins σ (upd H a o) { s with heap:=h',toks:=t' }:=I.un (Un.laid k hp (I.hok.fresh hp)) (I.hok.laid k hp new)
theorem Inv.write{x e:ae}{o:HO}{t':Nat}(I:Inv X pins σ H s)(mu:Mut (H x))(he:e=x∨H e=some (.own x))(k:∀b u,b≠e->s.heap.get? b=some u->h'.get? b=some u)(heo:∃u,h'.get? e=some u)
  (new:dW X.prog X.w (upd H x o) h' x o):Inv X pins σ (upd H x o) { s with heap:=h',toks:=t' }:=I.un (Un.write mu he k heo) (I.hok.write mu he k heo new)
theorem Inv.tV{rZ:List (ae×Obj)}(I:Inv X pins σ H s)(h:∀p∈rZ,s.heap.get? p.1=some p.2/\H p.1=none/\p.1≠X.env.locals/\p.1∉X.fs/\∀v,p.2.data≠.cell v):Inv X rZ σ H s :=
 ⟨I.ok,I.os,I.bare,I.base,I.loc,I.cell,I.free,I.jF,fun p hp=>(dQ.mp hp).elim (fun z=>I.pin p (kQ _ z)) (h p),I.hok,I.len⟩
theorem yw{N:List Str}(hN:N.Nodup){i j:Nat}{x:Str}(a:N[i]?=some x)(b:N[j]?=some x):i=j:=by obtain⟨h1,e1⟩:=df.mp a;obtain⟨h2,e2⟩:=df.mp b;exact(List.getElem_inj hN).mp (e1.trans e2.symm)
theorem Ay{M:Model}{A:aI}{E:aa->af->Prop}{i:Nat}{x:Str}{v:V}{u:aa}{Q:Unit->af->Prop}(I:Inv X pins σ H s)(hN:X.N.Nodup)(hi:X.N[i]?=some x)(hx:FT X.env.scope x)(r:RelV v u)
  (h:∀s',Inv X pins (σ.set i (some v)) H s'->(∃a,fI a s.heap s'.heap/\(a=X.env.locals∨X.env.cells.lookup x=some a))->Q () s') (hf:X.fn x=true∨X.env.scope.names.lookup x=some .local:=by first|exact .inl rfl|exact .inr rfl|assumption):ar M A (storeName X.env x u) Q E s:=by
 obtain⟨m,hn,hl⟩:=id I.loc;have hcls:(X.env.scope.kind == .class || (X.env.scope.kind == .module && X.env.locals != X.env.globals))=false:=by rw[I.ok.kind];rfl
 have hiσ:i < σ.length:=by rw[I.len];exact(df.mp hi).1
 have Rw:=I.Rw;have tracked:∀{a:ae}{h':Heap},(∃o,s.heap.get? a=some o/\H a=none)->fI a s.heap h'->tU X.prog X.w H h':=fun {a h'} ha hs b ob e=>by
  obtain⟨_,_,hfree⟩:=ha;refine(I.hok b ob e).stay (fun c w' hc q=>(hs.2 c ?_).trans q) (fun _ q=>q) (fun _ _ q=>q) fun _ _ q=>q;rintro rfl;rcases hc with rfl|hc
  ·rw[hfree]at e;cases e
  ·rw[hfree]at hc;cases hc
 rcases hx with hk|hk
 ·refine wpAny_storeName_local hk hn (fun h' hn' hs=>?_) hcls;obtain⟨oL,_,_,hoL,_⟩:=id hn;refine h _ ⟨I.ok,I.os,I.bare,⟨fun b o e n hb hx=>?_,fun b o e n hb hx=>?_,I.base.free,fun b o e hx=>?_,I.base.tups,I.base.uO,I.base.wL⟩,⟨_,hn',fun j y v' e1 e2 e3=>?_⟩,fun y c e=>?_,I.free,I.jF,fun p hp=>?_,tracked ⟨oL,hoL,I.free⟩ hs,by simpa using I.len⟩ ⟨_,hs,.inl rfl⟩
  ·exact(hs.2 b (ck (dm (bE e) I.ok.above))).trans (I.base.keep b o e n hb hx)
  ·obtain⟨sl,e1⟩:=I.base.slot b o e n hb hx;exact⟨sl,(hs.2 b (ck (dm (bE e) I.ok.above))).trans e1⟩
  ·obtain⟨o',e1⟩:=I.base.there b o e hx;exact⟨o',(hs.2 b (ck (dm (bE e) I.ok.above))).trans e1⟩
  ·by_cases hj:j=i
   ·subst hj;rw[hi]at e1;cases e1;rw[di hiσ]at e2;cases e2;exact⟨u,r,.inl ⟨hk,by simp⟩⟩
   ·rw[cv (b_ hj)]at e2;obtain⟨u',r',q⟩:=hl j y v' e1 e2 e3;refine⟨u',r',?_⟩;rcases q with ⟨k,e⟩|⟨k,c,e,z⟩
    ·refine .inl ⟨k,?_⟩;have:y≠x:=fun e=>hj (yw hN e1 (e▸hi));simp[this,e]
    ·exact .inr ⟨k,c,e,z.sameBut hs (Rw y c e)⟩
  ·obtain⟨w',z⟩:=I.cell y c e;exact⟨w',z.sameBut hs (Rw y c e)⟩
  ·obtain⟨e,n,ne,nf,d⟩:=I.pin p hp;exact⟨(hs.2 p.1 ne).trans e,n,ne,nf,d⟩
 ·have hfn:X.fn x=true:=by
   rcases hf with z|z
   ·exact z
   ·rw[z]at hk;cases hk
  obtain⟨c,hc⟩:=I.ok.has x (.inl hk);obtain⟨w',z⟩:=I.cell x c hc;refine wpAny_storeName_cell I.ok.kind hk hc z (fun h' hc' hs=>?_);obtain⟨oc,hoc,aha⟩:=id z;refine h { s with heap:=h' } ⟨I.ok,I.os,I.bare,⟨fun b o e n hb hx=>?_,fun b o e n hb hx=>?_,I.base.free,fun b o e hx=>?_,I.base.tups,I.base.uO,I.base.wL⟩,⟨m,hn.sameBut hs (b_ (Rw x c hc)),fun j y v' e1 e2 e3=>?_⟩,fun y c' e=>?_,I.free,I.jF,fun p hp=>?_,tracked ⟨oc,hoc,I.jF x c hc⟩ hs,by simpa using I.len⟩ ⟨c,hs,.inr hc⟩
  ·exact(hs.2 b (ck (dm (bE e) (I.ok.cab x c hfn hc)))).trans (I.base.keep b o e n hb hx)
  ·obtain⟨sl,e1⟩:=I.base.slot b o e n hb hx;exact⟨sl,(hs.2 b (ck (dm (bE e) (I.ok.cab x c hfn hc)))).trans e1⟩
  ·obtain⟨o',e1⟩:=I.base.there b o e hx;exact⟨o',(hs.2 b (ck (dm (bE e) (I.ok.cab x c hfn hc)))).trans e1⟩
  ·by_cases hj:j=i
   ·subst hj;rw[hi]at e1;cases e1;rw[di hiσ]at e2;cases e2;exact⟨u,r,.inr ⟨.inl hk,c,hc,hc'⟩⟩
   ·rw[cv (b_ hj)]at e2;obtain⟨u',r',q⟩:=hl j y v' e1 e2 e3;refine⟨u',r',?_⟩;rcases q with q|⟨k,c',e,z'⟩
    ·exact .inl q
    ·refine .inr ⟨k,c',e,z'.sameBut hs ?_⟩;rintro rfl;exact hj (yw hN e1 (I.ok.inj _ _ _ e hc▸hi))
  ·by_cases hcc:c'=c
   ·subst hcc;exact⟨_,hc'⟩
   ·obtain⟨w2,z2⟩:=I.cell y c' e;exact⟨w2,z2.sameBut hs hcc⟩
  ·obtain⟨e,n,ne,nf,d⟩:=I.pin p hp;refine⟨(hs.2 p.1 ?_).trans e,n,ne,nf,d⟩;intro q;rw[q,hoc]at e;have q':oc=p.2:=dk e;exact d w' (by rw[<- q'];exact aha)
theorem yx{M:Model}{A:aI}{E:aa->af->Prop}{i:Nat}{x:Str}{v:V}{u:aa}{Q:Unit->af->Prop}(I:Inv X pins σ H s)(hN:X.N.Nodup)(hi:X.N[i]?=some x)(hx:FT X.env.scope x)(r:RelV v u)
  (h:∀s',Inv X pins (σ.set i (some v)) H s'->Q () s') (hf:X.fn x=true∨X.env.scope.names.lookup x=some .local:=by first|exact .inl rfl|exact .inr rfl|assumption):ar M A (storeName X.env x u) Q E s :=
 Ay I hN hi hx r (fun s' I' _=>h s' I') hf
theorem Inv.call'{s':af}{ch:List ae}(I:Inv X pins σ H s)(ho:s'.os=s.os)(u:Un (oZ X.stack) ch H H' s.heap s'.heap)(hok:tU X.prog X.w H' s'.heap)(hg:kN s'.gens)
  (hch:∀b∈ch,(b∈X.ex∨X.s₀.heap.objs.size<=b)/\b≠X.env.locals/\(∀x c,X.env.cells.lookup x=some c->c≠b)/\∀p∈X.pn++pins,p.1≠b):Inv X pins σ H' s':=by
 obtain⟨h',g',d',t',o'⟩:=s';have e:o'=s.os:=ho;subst e;exact I.call (g':=g') (t':=t') (d':=d') u hok hg hch
end
noncomputable abbrev XK:=aa->Option ae->Hp->Prop
noncomputable abbrev St:=List (Option V)
noncomputable abbrev VK:=V->Hp->Prop
noncomputable abbrev TE:=St->Hp->VK->Prop
noncomputable abbrev TT:=St->Hp->(Bool->Hp->Prop)->Prop
noncomputable abbrev TA:=St->Hp->(List V->Hp->Prop)->Prop
structure Ends where
 nx:St->Hp->Prop
 rt:VK
 bk:St->Hp->Prop:=fun _ _=>False
 ct:St->Hp->Prop:=fun _ _=>False
noncomputable abbrev TS:=Ends->St->Hp->Prop
noncomputable def EP(X:Cx)(pins:List (ae×Obj))(σ:St)(Q:VK)(u:aa)(s':af):Prop:=∃v H',Inv X pins σ H' s'/\RelV v u/\Q v H'
noncomputable def TP(X:Cx)(pins:List (ae×Obj))(σ:St)(Q:Bool->Hp->Prop)(b:Bool)(s':af):Prop:=∃H',Inv X pins σ H' s'/\Q b H'
noncomputable def AP(X:Cx)(pins:List (ae×Obj))(σ:St)(Q:List V->Hp->Prop)(us:List aa)(s':af):Prop:=∃vs H',Inv X pins σ H' s'/\Vals vs us/\Q vs H'
noncomputable def SP(X:Cx)(pins:List (ae×Obj))(D:Ends)(f:Flow)(s':af):Prop :=
 match f with
 | .next=>∃σ' H',Inv X pins σ' H' s'/\D.nx σ' H'
 | .brk=>∃σ' H',Inv X pins σ' H' s'/\D.bk σ' H'
 | .cont=>∃σ' H',Inv X pins σ' H' s'/\D.ct σ' H'
 | .ret u=>∃v σ' H',Inv X pins σ' H' s'/\RelV v u/\D.rt v H'
noncomputable def PE(X:Cx)(e:ah)(t:TE):Prop :=
 ∀(pins:List (ae×Obj)) (s:af) (σ:St) (H:Hp) (Q:VK),Inv X pins σ H s->t σ H Q->ar (ax X.prog X.w) X.A (aS e X.env) (EP X pins σ Q) X.xe s
noncomputable def PT(X:Cx)(e:ah)(t:TT):Prop :=
 ∀(pins:List (ae×Obj)) (s:af) (σ:St) (H:Hp) (Q:Bool->Hp->Prop),Inv X pins σ H s->t σ H Q->ar (ax X.prog X.w) X.A (isTrue e X.env (aS e X.env)) (TP X pins σ Q) X.xe s
noncomputable def PW(X:Cx)(e:ah)(t:TT):Prop :=
 ∀(whole:Sem aa) (pins:List (ae×Obj)) (s:af) (σ:St) (H:Hp) (Q:Bool->Hp->Prop),Inv X pins σ H s->t σ H Q->ar (ax X.prog X.w) X.A (isTrue e X.env whole) (TP X pins σ Q) X.xe s
theorem PW.pt{X:Cx}{e:ah}{t:TT}(h:PW X e t):PT X e t:=h _
noncomputable def PA(X:Cx)(es:List ah)(t:TA):Prop :=
 ∀(pos:Pos) (pins:List (ae×Obj)) (s:af) (σ:St) (H:Hp) (Q:List V->Hp->Prop),Inv X pins σ H s->t σ H Q->ar (ax X.prog X.w) X.A (spliced (dt pos (bg es X.env))) (AP X pins σ Q) X.xe s
noncomputable def PS(X:Cx)(st:bj)(t:TS):Prop :=
 ∀(pins:List (ae×Obj)) (s:af) (σ:St) (H:Hp) (D:Ends),Inv X pins σ H s->t D σ H->ar (ax X.prog X.w) X.A (exec st X.env) (SP X pins D) X.xe s
noncomputable def FJ(X:Cx)(st:List bj)(t:TS):Prop :=
 ∀(pins:List (ae×Obj)) (s:af) (σ:St) (H:Hp) (D:Ends),Inv X pins σ H s->t D σ H->ar (ax X.prog X.w) X.A (execs st X.env) (SP X pins D) X.xe s
theorem iK{α:Type}{t:Sem α}{Q Q':α->af->Prop}{M:Model}{A:aI}{E:aa->af->Prop}{s:af}(h:ar M A t Q E s)(hQ:∀a s,Q a s->Q' a s):ar M A t Q' E s:=dS h hQ fun _ _ x=>x
section
variable{X:Cx}
noncomputable def FW(i:Nat):TE:=fun σ H Q=>∃v,σ[i]?=some (some v)/\Q v H
noncomputable def tC(v:V):TE:=fun _ H Q=>Q v H
theorem nW{i:Nat}{x:Str}{pos:Pos}(hN:X.N[i]?=some x)(hv:Ri X.env.scope x)(hd:uN x:=by decide)(hcd:Rq x:=by decide):PE X (.Name x pos) (FW i):=by
 intro pins s σ H Q I h;obtain⟨v,e,h⟩:=h;obtain⟨m,hn,hl⟩:=I.loc;obtain⟨u,r,l⟩:=hl i x v hN e hv;have dY:EP X pins σ Q u s:=⟨v,H,I,r,h⟩
 rcases l with ⟨hk,hm⟩|⟨hk,c,hc,hcell⟩
 ·exact wpAny_Name (wpAny_loadName_local I.ok.kind hk hn hm dY) hd
 ·rcases hk with hk|hk
  ·exact wpAny_Name (wpAny_loadName_cell I.ok.kind hk hc hcell dY) hd
  ·exact wpAny_Name (wpAny_loadName_free I.ok.kind hk hc hcell dY hcd) hd
theorem abx{i j pos}:PE X (.Constant (.int i) j pos) (tC (.int i)):=fun _ _ _ H _ I h=>wpAny_Constant_int ⟨.int i,H,I.tok _,⟨_,rfl⟩,h⟩
theorem aek{b j pos}:PE X (.Constant (.bool b) j pos) (tC (.bl b)):=fun _ _ _ H _ I h=>Constant_bool ⟨.bl b,H,I,rfl,h⟩
theorem aby{j pos}:PE X (.Constant .none j pos) (tC .non):=fun _ _ _ H _ I h=>Constant_none ⟨.non,H,I,rfl,h⟩
theorem abz{x j pos}:PE X (.Constant (.str x) j pos) (tC (.str x)):=fun _ _ _ H _ I h=>Calls.Constant_str ⟨.str x,H,I.tok _,⟨_,rfl⟩,h⟩
noncomputable def Gl(X:Cx)(x:Str):Prop:=X.env.kindOf x=some .globalImplicit
theorem xQ{E:aa->af->Prop}{pins:List (ae×Obj)}{s:af}{σ:St}{H:Hp}{x:Str}{u:aa}{pos:Pos}{Q:aa->af->Prop}(I:Inv X pins σ H s)(hg:Gl X x)(hm:X.mg x=some u)(h:Q u s)
  (hd:uN x:=by decide):ar (ax X.prog X.w) X.A (aS (.Name x pos) X.env) Q E s :=
 Calls.Name_function_global I.ok.kind hg (Calls.loadGlobal_global (by rw[I.ok.glob];exact I.mod.glob.keeps I.bk) hm h) hd
theorem qj{E:aa->af->Prop}{pins:List (ae×Obj)}{s:af}{σ:St}{H:Hp}{x:Str}{u:aa}{pos:Pos}{Q:aa->af->Prop}(I:Inv X pins σ H s)(hg:Gl X x)(hm:X.mg x=none)(hv:gT x=some u)(h:Q u s)
  (hn:x≠"__name__":=by decide) (hd:uN x:=by decide):ar (ax X.prog X.w) X.A (aS (.Name x pos) X.env) Q E s:=by
 obtain⟨mb,h1,h2⟩:=I.mod.blt;exact Calls.Name_function_global I.ok.kind hg (Calls.loadGlobal_builtin (by rw[I.ok.glob];exact I.mod.glob.keeps I.bk) hm (by rw[I.ok.blt];exact h1.keeps I.bk) ((h2 x hn).trans hv) h) hd
theorem Lx{x:Str}{v:V}{u:aa}{pos:Pos}(hg:Gl X x)(hm:X.mg x=some u)(r:RelV v u)(hd:uN x:=by decide):PE X (.Name x pos) (tC v) :=
 fun _ _ _ H _ I h=>xQ I hg hm ⟨v,H,I,r,h⟩ hd
theorem Ly{x:Str}{v:V}{u:aa}{pos:Pos}(hg:Gl X x) (hm:X.mg x=none) (hv:gT x=some u) (r:RelV v u) (hn:x≠"__name__":=by decide) (hd:uN x:=by decide):PE X (.Name x pos) (tC v) :=
 fun _ _ _ H _ I h=>qj I hg hm hv ⟨v,H,I,r,h⟩ hn hd
variable{a b:ah}{ta tb:TE}{pos:Pos}
noncomputable def tB(t:TE):TT:=fun σ H Q=>t σ H fun x H1=>∃c,x=.bl c/\Q c H1
theorem abA{e:ah}{t:TE}(h:PE X e t)(he:∀whole,isTrue e X.env whole=(do let v <- whole;me e.pos;eL [v] (truthy v)):=by intro _;rfl):PT X e (tB t):=by intro pins s σ H Q I hw;refine isTrue_plain (iK (h pins s σ H _ I hw) fun v s1 ⟨x,H1,I1,r1,q1⟩=>?_) (he _);obtain⟨d,rfl,q⟩:=q1;cases r1;exact kR ⟨H1,I1,q⟩
variable{tA tB':TT}{cj:List ah}
noncomputable def ahb(t u:TT):TT:=fun σ H Q=>t σ H fun c H1=>if c=true then u σ H1 Q else Q false H1
noncomputable def tOr(t u:TT):TT:=fun σ H Q=>t σ H fun c H1=>if c=true then Q true H1 else u σ H1 Q
noncomputable def ahc(t:TT):TT:=fun σ H Q=>t σ H fun c H1=>Q (!c) H1
theorem Yg(ha:PT X a tA):PW X (.BoolOp .And [a] pos) tA:=by
 intro wh pins s σ H Q I h;refine isTrue_and (iK (ha pins s σ H Q I h) fun c s1 e=>?_);cases c with
 |true=>exact isTrue_and_nil e
 |false=>exact e
theorem abB(ha:PT X a tA):PW X (.BoolOp .Or [a] pos) tA:=by
 intro wh pins s σ H Q I h;refine isTrue_or (iK (ha pins s σ H Q I h) fun c s1 e=>?_);cases c with
 |false=>exact isTrue_or_nil e
 |true=>exact e
theorem abC(ha:PT X a tA)(hb:PW X (.BoolOp .And (b::cj) pos) tB'):PW X (.BoolOp .And (a::b::cj) pos) (ahb tA tB'):=by
 intro wh pins s σ H Q I h;refine isTrue_and (iK (ha pins s σ H _ I h) fun c s1 fj=>?_);obtain⟨H1,I1,q1⟩:=fj;cases c with
 |true=>exact hb wh pins s1 σ H1 Q I1 q1
 |false=>exact⟨H1,I1,q1⟩
theorem ael(ha:PT X a tA)(hb:PW X (.BoolOp .Or (b::cj) pos) tB'):PW X (.BoolOp .Or (a::b::cj) pos) (tOr tA tB'):=by
 intro wh pins s σ H Q I h;refine isTrue_or (iK (ha pins s σ H _ I h) fun c s1 fj=>?_);obtain⟨H1,I1,q1⟩:=fj;cases c with
 |true=>exact⟨H1,I1,q1⟩
 |false=>exact hb wh pins s1 σ H1 Q I1 q1
theorem abD(ha:PT X a tA):PT X (.UnaryOp .Not a pos) (ahc tA):=by intro pins s σ H Q I h;exact isTrue_not (ha pins s σ H (fun c H1=>Q (!c) H1) I h)
noncomputable def aem(ta tb:TE):TE:=fun σ H Q=>ta σ H fun x H1=>∃c,x=.bl c/\if c=true then tb σ H1 Q else Q (.bl false) H1
noncomputable def aen(ta:TE):TE:=fun σ H Q=>ta σ H fun x H1=>∃c,x=.bl c/\Q (.bl (!c)) H1
theorem abE{op}{t:TE}(h:PE X a t):PE X (.BoolOp op [a] pos) t:=fun pins s σ H Q I hw=>BoolOp_one (h pins s σ H Q I hw)
theorem abF(ha:PE X a ta)(hb:PE X (.BoolOp .And (b::cj) pos) tb):PE X (.BoolOp .And (a::b::cj) pos) (aem ta tb):=by
 intro pins s σ H Q I h;refine BoolOp_and (iK (ha pins s σ H _ I h) fun v s1 fj=>?_);obtain⟨x,H1,I1,r1,q1⟩:=fj;obtain⟨c,rfl,q1⟩:=q1;cases r1;refine kR ?_;cases c with
 |true=>exact hb pins s1 σ H1 Q I1 q1
 |false=>exact⟨.bl false,H1,I1,rfl,q1⟩
theorem abG(ha:PE X a ta):PE X (.UnaryOp .Not a pos) (aen ta):=by intro pins s σ H Q I h;refine UnaryOp_ (iK (ha pins s σ H _ I h) fun v s1 fj=>?_);obtain⟨x,H1,I1,r1,q1⟩:=fj;obtain⟨c,rfl,q1⟩:=q1;cases r1;exact not_of (kR ⟨.bl (!c),H1,I1,rfl,q1⟩)
end
noncomputable def pU(K:ai)(H:Hp)(a:ae)(xs:List V):Prop :=
 Rd H a (.lst xs) ∨
  ∃(o:Obj) (its:Array aa) (n:Nat),K.lookup a=some o/\o.cls=.type "list"/\o.dict=none/\o.data=.seq its n/\its.size<=sizeLine/\Vals xs its.toList
noncomputable def jT(K:ai)(H:Hp)(a:ae)(xs:List V):Prop :=
 Rd H a (.tup xs) ∨
  ∃(o:Obj) (its:Array aa) (n:Nat),K.lookup a=some o/\o.cls=.type "tuple"/\o.data=.seq its n/\its.size<=sizeLine/\Vals xs its.toList
noncomputable def ahd:aa->Option V
 | .none=>some .non
 | .bool b=>some (.bl b)
 | .int i _=>some (.int i)
 | .str x _=>some (.str x)
 | .bytes b _=>some (.byt b)
 | .float b _=>some (.flt b)
 | .ref a=>some (.ref a)
 | .type n=>some (.ty n)
 |_=>none
theorem RelV.abs{x:V}{u:aa}(r:RelV x u):ahd u=some x:=by
 cases x with
 |non=>cases r;rfl
 |bl _=>cases r;rfl
 |int _=>obtain⟨t,rfl⟩:=r;rfl
 |str _=>obtain⟨t,rfl⟩:=r;rfl
 |byt _=>obtain⟨t,rfl⟩:=r;rfl
 |flt _=>obtain⟨t,rfl⟩:=r;rfl
 |ref _=>cases r;rfl
 |ty _=>cases r;rfl
theorem RelV.inj{x y:V}{u:aa}(r:RelV x u)(q:RelV y u):x=y:=dk (r.abs.symm.trans q.abs)
theorem Vals.inj:∀{xs ys:List V}{us:List aa},Vals xs us->Vals ys us->xs=ys
 |_,_,_,.nil,.nil=>rfl
 |_,_,_,.cons r t,.cons r' t'=>by rw[r.inj r',Vals.inj t t']
section
variable{X:Cx}{pins:List (ae×Obj)}{σ:St}{H:Hp}{s:af}{a:ae}{xs ys:List V}
theorem pU.of{K:ai}(h:H a=some (.lst xs)):pU K H a xs:=.inl (.inl h)
theorem jT.of{K:ai}(h:H a=some (.tup xs)):jT K H a xs:=.inl (.inl h)
theorem Inv.list(I:Inv X pins σ H s)(h:pU X.K H a xs):∃its:List aa,Vals xs its/\PlainL s.heap a its.toArray/\xs.length<=sizeLine:=by
 rcases h with h|⟨o,its,n,hk,hc,hd,hs,hz,r⟩
 ·obtain⟨z,its,n,r,e⟩:=h.ok I.hok;exact⟨its,r,⟨_,n,e,rfl,rfl,rfl⟩,z⟩
 ·refine⟨its.toList,r,⟨o,n,I.Jl a o hk,hc,hd,by simpa using hs⟩,?_⟩;have e:=r.length;simp only[kS]at e;lia
theorem Inv.tuple(I:Inv X pins σ H s)(h:jT X.K H a xs):∃its:List aa,Vals xs its/\IsTup s.heap a its.toArray/\xs.length<=sizeLine:=by
 rcases h with h|⟨o,its,n,hk,hc,hs,hz,r⟩
 ·obtain⟨z,its,r,p⟩:=h.ok I.hok;exact⟨its,r,p,z⟩
 ·refine⟨its.toList,r,⟨o,I.Jl a o hk,hc,n,by simpa using hs⟩,?_⟩;have e:=r.length;simp only[kS]at e;lia
theorem Inv.FZ(I:Inv X pins σ H s)(h:pU X.K H a xs)(h':pU X.K H a ys):xs=ys:=by
 obtain⟨its,r,⟨o,n,e,_,_,d⟩,_⟩:=I.list h;obtain⟨its',r',⟨o',n',e',_,_,d'⟩,_⟩:=I.list h';rw[e]at e';cases e';rw[d]at d';injection d' with d1 _;have:its=its':=by simpa using congrArg Array.toList d1
 subst this;exact r.inj r'
theorem Inv.oK(I:Inv X pins σ H s)(h:jT X.K H a xs)(h':jT X.K H a ys):xs=ys:=by
 obtain⟨its,r,⟨o,e,_,n,d⟩,_⟩:=I.tuple h;obtain⟨its',r',⟨o',e',_,n',d'⟩,_⟩:=I.tuple h';rw[e]at e';cases e';rw[d]at d';injection d' with d1 _;have:its=its':=by simpa using congrArg Array.toList d1
 subst this;exact r.inj r'
end
noncomputable abbrev Cx.wish(X:Cx)(E:aa->af->Prop):Cx:={ X with xe:=E }
noncomputable abbrev Cx.Pa(X:Cx):Cx:=X.wish fun _ _=>False
theorem Cx.Ok.wish{X:Cx}(ok:X.Ok)(E:aa->af->Prop):(X.wish E).Ok :=
 ⟨ok.mod,ok.kind,ok.glob,ok.blt,ok.above,ok.inj,ok.has,ok.cab,ok.hd,ok.frames,ok.stk,ok.exf,ok.bs,ok.Ru,ok.Cy,ok.OJ,ok.uP,ok.frf⟩
theorem Cx.Ok.lZ{X:Cx}{E:aa->af->Prop}(ok:(X.wish E).Ok):X.Ok :=
 ⟨ok.mod,ok.kind,ok.glob,ok.blt,ok.above,ok.inj,ok.has,ok.cab,ok.hd,ok.frames,ok.stk,ok.exf,ok.bs,ok.Ru,ok.Cy,ok.OJ,ok.uP,ok.frf⟩
section
variable{X:Cx}{pins:List (ae×Obj)}{σ:St}{H:Hp}{s:af}{E:aa->af->Prop}
theorem Inv.wish(I:Inv X pins σ H s)(E:aa->af->Prop):Inv (X.wish E) pins σ H s:=⟨I.ok.wish E,I.os,I.bare,I.base,I.loc,I.cell,I.free,I.jF,I.pin,I.hok,I.len⟩
theorem Inv.lZ(I:Inv (X.wish E) pins σ H s):Inv X pins σ H s:=⟨I.ok.lZ,I.os,I.bare,I.base,I.loc,I.cell,I.free,I.jF,I.pin,I.hok,I.len⟩
theorem SP.lZ{D:Ends}{f:Flow}{s':af}(h:SP (X.wish E) pins D f s'):SP X pins D f s':=by
 cases f with
 |next=>obtain⟨σ',H',I,q⟩:=h;exact⟨σ',H',I.lZ,q⟩
 |brk=>obtain⟨σ',H',I,q⟩:=h;exact⟨σ',H',I.lZ,q⟩
 |cont=>obtain⟨σ',H',I,q⟩:=h;exact⟨σ',H',I.lZ,q⟩
 |ret u=>obtain⟨v,σ',H',I,r,q⟩:=h;exact⟨v,σ',H',I.lZ,r,q⟩
theorem PE.Pa{e:ah}{t:TE}(h:PE X.Pa e t):PE X e t:=fun pins s σ H Q I hw =>
 dS (h pins s σ H Q (I.wish _) hw) (fun _ _ ⟨v,H',I',r,q⟩=>⟨v,H',I'.lZ,r,q⟩) fun _ _ z=>ik z
end
section
variable{X:Cx}{st:bj}{cj:List bj}{t u:TS}{e:ah}{te:TE}{pos:Pos}
noncomputable def aeo:TS:=fun D σ H=>D.nx σ H
noncomputable def ahe(t u:TS):TS:=fun D σ H=>t { D with nx:=u D } σ H
theorem Yh:FJ X [] aeo:=fun _ _ σ H _ I h=>p8 ⟨σ,H,I,h⟩
theorem tW(h1:PS X st t)(h2:FJ X cj u):FJ X (st::cj) (ahe t u):=by
 intro pins s σ H D I h;refine wpAny_execs_cons (iK (h1 pins s σ H { D with nx:=u D } I h) fun f s1 q=>?_);cases f with
 |next =>
  obtain⟨σ',H',I',q⟩:=q;exact h2 pins s1 σ' H' D I' q
 |ret v=>exact q
 |brk=>exact q
 |cont=>exact q
theorem Lz(h1:PS X st t):FJ X [st] t:=by
 intro pins s σ H D I h;refine wpAny_execs_cons (iK (h1 pins s σ H D I h) fun f s1 q=>?_);cases f with
 |next=>exact p8 q
 |ret v=>exact q
 |brk=>exact q
 |cont=>exact q
theorem Inv.quiet{pins:List (ae×Obj)}{σ:St}{H:Hp}{s:af}(I:Inv X pins σ H s):interactive X.env=false:=by simp[interactive,I.ok.kind]
noncomputable def aep(te:TE):TS:=fun D σ H=>te σ H fun _ H1=>D.nx σ H1
theorem Cz(he:PE X e te)(hs:eW e none pos.line X.env=pure false:=by rfl):PS X (.Expr e pos) (aep te):=by intro pins s σ H D I h;exact wpAny_Expr_any (iK (he pins s σ H _ I h) fun v s1 ⟨x,H1,I1,r1,q1⟩=>⟨σ,H1,I1,q1⟩) I.quiet hs
noncomputable def ahf(te:TE):TS:=fun D σ H=>te σ H D.rt
theorem abH(he:PE X e te):PS X (.Return (some e) pos) (ahf te):=by intro pins s σ H D I h;exact wpAny_Return_some (iK (he pins s σ H _ I h) fun v s1 ⟨x,H1,I1,r1,q1⟩=>⟨x,σ,H1,I1,r1,q1⟩)
noncomputable def ahg(c:TT)(t u:TS):TS:=fun D σ H=>c σ H fun b H1=>if b=true then t D σ H1 else u D σ H1
theorem aer{c:ah}{a b:List bj}{tc:TT}(hc:PT X c tc)(ha:FJ X a t)(hb:FJ X b u):PS X (.If c a b pos) (ahg tc t u):=by
 intro pins s σ H D I h;refine wpAny_If (iK (hc pins s σ H _ I h) fun d s1 fj=>?_);obtain⟨H1,I1,q1⟩:=fj;cases d with
 |true=>exact ha pins s1 σ H1 D I1 q1
 |false=>exact hb pins s1 σ H1 D I1 q1
noncomputable def Rx:TS:=fun _ _ _=>False
theorem Ry:PS X st Rx:=fun _ _ _ _ _ _ h=>h.elim
theorem Pb{sts:List bj}:FJ X sts Rx:=fun _ _ _ _ _ _ h=>h.elim
end
noncomputable abbrev TG:=V->St->Hp->(St->Hp->Prop)->Prop
noncomputable abbrev Yi:=List V->St->Hp->(St->Hp->Prop)->Prop
noncomputable def PG(X:Cx)(target:ah)(t:TG):Prop :=
 ∀(pins:List (ae×Obj)) (s:af) (σ:St) (H:Hp) (v:V) (u:aa) (Q:St->Hp->Prop),Inv X pins σ H s->RelV v u->t v σ H Q ->
  ar (ax X.prog X.w) X.A (assign target X.env u) (fun _ s'=>∃σ' H',Inv X pins σ' H' s'/\Q σ' H') X.xe s
noncomputable def XR(X:Cx)(ts:List ah)(t:Yi):Prop :=
 ∀(pins:List (ae×Obj)) (s:af) (σ:St) (H:Hp) (vs:List V) (us:List aa) (Q:St->Hp->Prop),Inv X pins σ H s->Vals vs us->t vs σ H Q ->
  ar (ax X.prog X.w) X.A (assignInOrder ((fN ts X.env).map (·.2)) us) (fun _ s'=>∃σ' H',Inv X pins σ' H' s'/\Q σ' H') X.xe s
noncomputable abbrev Yj:=V->V->V->Hp->(Hp->Prop)->Prop
noncomputable def aes(X:Cx)(t:Yj):Prop :=
 ∀(pins:List (ae×Obj)) (s:af) (σ:St) (H:Hp) (o i v:V) (ov iv u:aa) (Q:Hp->Prop),Inv X pins σ H s->RelV o ov->RelV i iv->RelV v u->t o i v H Q ->
  ar (ax X.prog X.w) X.A (setItem ov iv u) (fun _ s'=>∃H',Inv X pins σ H' s'/\Q H') X.xe s
section
variable{X:Cx}{pos:Pos}
noncomputable def aaH(i:Nat):TG:=fun v σ H Q=>Q (σ.set i (some v)) H
theorem LK{i:Nat}{x:Str}(hN:X.N.Nodup)(hi:X.N[i]?=some x)(hx:FT X.env.scope x)(hf:X.fn x=true∨X.env.scope.names.lookup x=some .local:=by first|exact .inl rfl|exact .inr rfl|assumption):PG X (.Name x pos) (aaH i):=by intro pins s σ H v u Q I r h;exact wpAny_assign_Name (yx I hN hi hx r (fun s' I'=>⟨_,H,I',h⟩) hf)
noncomputable def ahh:Yi:=fun vs σ H Q=>vs=[]/\Q σ H
noncomputable def aeu(t:TG)(u:Yi):Yi:=fun vs σ H Q=>∃v r,vs=v::r/\t v σ H fun σ' H'=>u r σ' H' Q
theorem Yk:XR X [] ahh:=by intro pins s σ H vs us Q I r h;obtain⟨e,h⟩:=h;subst e;cases r;exact assignInOrder_nil ⟨σ,H,I,h⟩
theorem Rz{e:ah}{es:List ah}{t:TG}{u:Yi}(h1:PG X e t)(h2:XR X es u)
  (hs:(fN (e::es) X.env).map (·.2)=assign e X.env::(fN es X.env).map (·.2):=by rfl):XR X (e::es) (aeu t u):=by
 intro pins s σ H vs us Q I r h;obtain⟨v,vr,e1,h⟩:=h;subst e1;cases r with
 |cons r rr =>
  rw[hs];refine assignInOrder_cons (iK (h1 pins s σ H _ _ _ I r h) fun _ s1 fj=>?_);obtain⟨σ1,H1,I1,q1⟩:=fj;exact h2 pins s1 σ1 H1 _ _ Q I1 rr q1
noncomputable def gP(K:ai)(n:Nat)(t:Yi):TG:=fun v σ H Q=>∃a xs,v=.ref a/\jT K H a xs/\xs.length=n/\t xs σ H Q
theorem abI{es:List ah}{k:Nat}{t:Yi}{n:Nat}(hc:X.calm=true)(h:XR X es t)
  (hn:(fN es X.env).length=n:=by rfl) (hst:(fN es X.env).findIdx? (·.1)=none:=by rfl):PG X (.Tuple es k pos) (gP X.K n t):=by
 intro pins s σ H v u Q I r hw;obtain⟨a,xs,e1,hq,hl,hw⟩:=hw;subst e1;cases r;obtain⟨its,rv,ht,hz⟩:=I.tuple hq;refine assign_Tuple_tuple (I.ok.hd hc) ht (by simp[hn,<- hl,rv.length]) hst fun h' hx=>?_;have I1:Inv X pins σ H { s with heap:=h' }:=I.kept (t':=s.toks) fun b o e=>hx b o (ck (bE e)) e;exact h pins _ σ H xs _ Q I1 (by simpa using rv) hw
noncomputable def nY(to ti:TE)(t:Yj):TG:=fun v σ H Q=>to σ H fun o H1=>ti σ H1 fun i H2=>t o i v H2 fun H3=>Q σ H3
theorem RB{o i:ah}{to ti:TE}{t:Yj}(ho:PE X o to)(hi:PE X i ti)(hs:aes X t)
  (ha:∀v,assign (.Subscript o i pos) X.env v=(do
   let ov <- eL [v] (aS o X.env)
   let iv <- eL [v,ov] (aS i X.env)
   me pos
   eL [v,ov,iv] (setItem ov iv v)
   release [v,ov,iv] []):=by intro _;rfl):PG X (.Subscript o i pos) (nY to ti t):=by
 intro pins s σ H v u Q I r h;rw[ha];refine ag (e_ (iK (ho pins s σ H _ I h) fun ov s1 fj=>?_));obtain⟨x,H1,I1,r1,q1⟩:=fj;refine ag (e_ (iK (hi pins s1 σ H1 _ I1 q1) fun iv s2 fj=>?_));obtain⟨y,H2,I2,r2,q2⟩:=fj;refine ag (td (ag (e_ (iK (hs pins s2 σ H2 x y v ov iv u _ I2 r1 r2 r q2) fun _ s3 fj=>?_))));obtain⟨H3,I3,q3⟩:=fj;exact wpAny_release ⟨σ,H3,I3,q3⟩
noncomputable def aev(te:TE)(g:TG):TS:=fun D σ H=>te σ H fun x H1=>g x σ H1 D.nx
theorem Jo{tg e:ah}{te:TE}{g:TG}(he:PE X e te)(hg:PG X tg g)(hs:mf [tg] e pos.line X.env=pure false:=by rfl)(hw:mh [tg] e X.env=pure none:=by rfl)
  (h1:(fN [tg] X.env).map (·.2)=[assign tg X.env]:=by rfl):PS X (.Assign [tg] e pos) (aev te g):=by
 intro pins s σ H D I h;refine wpAny_Assign_stores (iK (he pins s σ H _ I h) fun v s1 ⟨x,H1,I1,r1,q1⟩=>?_) hs hw;rw[h1];exact iK (hg pins s1 σ H1 x v _ I1 r1 q1) fun _ s2 q=>q
theorem CG{i:Nat}{x:Str}{e:ah}{te:TE}{pos':Pos}(hN:X.N.Nodup)(hi:X.N[i]?=some x)(hx:FT X.env.scope x)(he:PE X e te)(hs:eW e (some (.Name x pos')) pos.line X.env=pure false:=by rfl)(hf:X.fn x=true∨X.env.scope.names.lookup x=some .local:=by first|exact .inl rfl|exact .inr rfl|assumption) :
  PS X (.Assign [.Name x pos'] e pos) (aev te (aaH i)):=by
 intro pins s σ H D I h;refine wpAny_Assign_Name (iK (he pins s σ H _ I h) fun v s1 ⟨y,H1,I1,r1,q1⟩=>?_) hs;exact yx I1 hN hi hx r1 (fun s2 I2=>⟨_,H1,I2,q1⟩) hf
end
section
variable{X:Cx}{pos:Pos}
end
structure It where
 go:Nat->Hp->Prop
 yld:Nat->Hp->V->Hp->Prop
 stop:Nat->Hp->Prop
noncomputable def mj(X:Cx)(pins:List (ae×Obj))(H:Hp)(b:ae):Prop :=
 H b=none/\b≠X.env.locals/\b∉X.fs/\(b∈X.ex∨X.s₀.heap.objs.size<=b)/\(∀x c,X.env.cells.lookup x=some c->c≠b)/\∀p∈X.pn++pins,p.1≠b
theorem Inv.CJ{X:Cx}{pins:List (ae×Obj)}{σ:St}{H H':Hp}{s:af}{b:ae}(I:Inv X pins σ H s)(hb:s.heap.objs.size<=b)(hn:H' b=none):mj X pins H' b:=by
 refine⟨hn,jS (dm I.lt hb),I.Rv hb,.inr (et I.sz hb),fun x c e z=>?_,fun p hp z=>?_⟩
 ·obtain⟨v,q⟩:=I.cell x c e;exact absurd (dm q.lt (by rw[z];exact hb)) (fw _)
 ·exact absurd (dm (bE (I.pin p hp).1) (by rw[z];exact hb)) (fw _)
structure Turn (P:aE)(w:az)(K:ai)(tg:ah)(J:It)(fp:List ae)(it:ae)(tn:Nat->Heap->Prop):Prop where
  mem:it∈fp
  obj:∀i h,tn i h->∀b∈fp,∃o,h.get? b=some o/\∀v,o.data≠.cell v
  keep:∀i h h',tn i h->(∀b∈fp,∀o,h.get? b=some o->h'.get? b=some o)->tn i h'
  item:∀(X:Cx),X.prog=P->X.w=w->X.K=K->X.calm=true->∀(i:Nat) (pins:List (ae×Obj)) (s:af) (σ:St) (H:Hp) (E:aa->af->Prop),Inv X pins σ H s->(∀b∈fp,mj X pins H b)->tn i s.heap->J.go i H ->
    ar (ax P w) X.A (eD (.ref it)) (fun r s1=>∃u,r=some u /\
      ar (ax P w) X.A (p9 tg (.ref it) u) (fun _ s2=>∃x H',Inv X pins σ H' s2/\RelV x u/\J.yld i H x H'/\tn (i + 1) s2.heap/\∀b∈fp,H' b=none) E s1) E s
  done : ∀(X : Cx), X.prog = P -> X.w = w -> X.K = K -> X.calm = true -> ∀(i : Nat) (pins : List (ae × Obj)) (s : af) (σ : St) (H : Hp) (E : aa -> af -> Prop), Inv X pins σ H s -> (∀b ∈ fp, mj X pins H b) -> tn i s.heap -> J.stop i H ->
    ar (ax P w) X.A (eD (.ref it)) (fun r s1=>r=none/\Inv X pins σ H s1) E s
  self:∀(A:aI) (i:Nat) (s:af) (Q:aa->af->Prop) (E:aa->af->Prop),tn i s.heap->Q (.ref it) s->ar (ax P w) A (pyIter (.ref it)) Q E s
noncomputable abbrev TI:=St->Hp->(It->Hp->Prop)->Prop
noncomputable def PIE(X:Cx)(pins:List (ae×Obj))(σ:St)(tg:ah)(R:It->Hp->Prop)(itv:aa)(s2:af):Prop :=
 ∃(it:ae) (fp:List ae) (tn:Nat->Heap->Prop) (J:It) (H':Hp),itv=.ref it/\Inv X pins σ H' s2/\Turn X.prog X.w X.K tg J fp it tn/\tn 0 s2.heap/\(∀b∈fp,mj X pins H' b)/\R J H'
noncomputable def PI(X:Cx)(tg iter:ah)(wi:TI):Prop :=
 ∀(pins:List (ae×Obj)) (s:af) (σ:St) (H:Hp) (R:It->Hp->Prop),Inv X pins σ H s->wi σ H R ->
  ar (ax X.prog X.w) X.A (aS iter X.env) (fun v s1=>ar (ax X.prog X.w) X.A (pyIter v) (PIE X pins σ tg R) X.xe s1) X.xe s
theorem LQ{M:Model}{A:aI}{E:aa->af->Prop}{s:af}{tg:ah}{it:ae}{u:aa}{o:Obj}{n:String}{vs:Array aa}{Q:Unit->af->Prop}(ho:s.heap.get? it=some o)(hc:o.cls=.type n)(hd:o.data=.fields vs)
    (hn:["enumerate","zip","dict_itemiterator","dict_reverseitemiterator","odict_iterator","itertools.zip_longest","itertools.pairwise"].contains n=false) (hQ:Q () s):ar M A (p9 tg (.ref it) u) Q E s:=by
  unfold p9;cases tg <;> first
    |exact a_ hQ
    | (cases u <;> first
        |exact a_ hQ
        | (refine ag (wpAny_load ho ?_)
           rw[hc,hd];show ar M A (if (["enumerate","zip","dict_itemiterator","dict_reverseitemiterator","odict_iterator","itertools.zip_longest","itertools.pairwise"].contains n && vs[0]? == some (dy _))=true then _ else _) Q E s;rw[if_neg (by intro h;rw[hn,Bool.false_and]at h;cases h)];exact a_ hQ))
noncomputable def Itl(K:ai)(a:ae):It :=
 ⟨fun i H=>∃xs x,pU K H a xs/\xs[i]?=some x,fun i H x H'=>H'=H/\∀xs,pU K H a xs->xs[i]?=some x,fun i H=>∃xs,pU K H a xs/\xs.length<=i⟩
noncomputable def Itt(K:ai)(a:ae):It :=
 ⟨fun i H=>∃xs x,jT K H a xs/\xs[i]?=some x,fun i H x H'=>H'=H/\∀xs,jT K H a xs->xs[i]?=some x,fun i H=>∃xs,jT K H a xs/\xs.length<=i⟩
noncomputable def XS(lo:Int)(n:Nat):It:=⟨fun i _=>i < n,fun i H x H'=>H'=H/\x=.int (lo + i),fun i _=>n<=i⟩
theorem Pg{P:aE}{w:az}{K:ai}{tg:ah}(a it:ae):Turn P w K tg (Itl K a) [it] it (fun i h=>h.IsListIter it a i) where
  mem:=by simp
  obj:=fun i h st b hb=>by
    have e:b=it:=by simpa using hb
    subst e;obtain⟨o,e,c,d⟩:=st;exact⟨o,e,fun v z=>by rw[d]at z;cases z⟩
  keep:=fun i h h' st k=>st.at fun o e=>k it (by simp) o e
  item:=by intro X hP hw hK hc i pins s σ H E I hf st hg;subst hP hw hK;obtain⟨xs,x,hq,hx⟩:=hg;obtain⟨its,rv,p,hz⟩:=I.list hq;obtain⟨u,hu,ru⟩:=rv.get hx;obtain⟨f0,f1,f2,f3,f4,f5⟩:=hf it (by simp);refine wpAny_pyNext_list_item st p.isList (x:=u) (by simpa using hu) fun h' st' sb=>?_;have I1:Inv X pins σ H { s with heap:=h' }:=I.turned (t':=s.toks) (fun b o hb e=>(sb.2 b hb).trans e) f0 f1 f3 f4 f5;obtain⟨o,e,c,d⟩:=id st';exact⟨u,rfl,LQ (s:={ s with heap:=h' }) e c d (by decide) ⟨x,H,I1,ru,⟨rfl,fun ys hy=>by rw[I.FZ hy hq];exact hx⟩,st',fun b hb=>(hf b hb).1⟩⟩
  done := by
    intro X hP hw hK hc i pins s σ H E I hf st hg;subst hP hw hK;obtain⟨xs,hq,hx⟩:=hg;obtain⟨its,rv,p,hz⟩:=I.list hq;obtain⟨f0,f1,f2,f3,f4,f5⟩:=hf it (by simp);have hl:=rv.length;exact wpAny_pyNext_list_end (I.ok.hd hc) st p.isList (by simp;lia) fun h' eb=>⟨rfl,I.turned (t':=s.toks) (fun b o hb e=>eb b o hb e) f0 f1 f3 f4 f5⟩
  self:=fun _ _ _ _ _ st h=>wpAny_pyIter_listiter st h
theorem Jp{P:aE}{w:az}{K:ai}{tg:ah}(a it:ae):Turn P w K tg (Itt K a) [it] it (fun i h=>h.IsTupleIter it a i) where
  mem:=by simp
  obj:=fun i h st b hb=>by
    have e:b=it:=by simpa using hb
    subst e;obtain⟨o,e,c,d⟩:=st;exact⟨o,e,fun v z=>by rw[d]at z;cases z⟩
  keep:=fun i h h' st k=>st.at fun o e=>k it (by simp) o e
  item:=by intro X hP hw hK hc i pins s σ H E I hf st hg;subst hP hw hK;obtain⟨xs,x,hq,hx⟩:=hg;obtain⟨its,rv,p,hz⟩:=I.tuple hq;obtain⟨u,hu,ru⟩:=rv.get hx;obtain⟨f0,f1,f2,f3,f4,f5⟩:=hf it (by simp);refine wpAny_pyNext_tuple_item st (show s.heap.IsTuple a its.toArray from p) (x:=u) (by simpa using hu) fun h' st' sb=>?_;have I1:Inv X pins σ H { s with heap:=h' }:=I.turned (t':=s.toks) (fun b o hb e=>(sb.2 b hb).trans e) f0 f1 f3 f4 f5;obtain⟨o,e,c,d⟩:=id st';exact⟨u,rfl,LQ (s:={ s with heap:=h' }) e c d (by decide) ⟨x,H,I1,ru,⟨rfl,fun ys hy=>by rw[I.oK hy hq];exact hx⟩,st',fun b hb=>(hf b hb).1⟩⟩
  done := by
    intro X hP hw hK hc i pins s σ H E I hf st hg;subst hP hw hK;obtain⟨xs,hq,hx⟩:=hg;obtain⟨its,rv,p,hz⟩:=I.tuple hq;obtain⟨f0,f1,f2,f3,f4,f5⟩:=hf it (by simp);have hl:=rv.length;exact wpAny_pyNext_tuple_end (I.ok.hd hc) st (show s.heap.IsTuple a its.toArray from p) (by simp;lia) fun h' eb=>⟨rfl,I.turned (t':=s.toks) (fun b o hb e=>eb b o hb e) f0 f1 f3 f4 f5⟩
  self:=fun _ _ _ _ _ st h=>wpAny_pyIter_tupleiter st h
theorem Jq{P:aE}{w:az}{K:ai}{tg:ah}(it:ae)(lo:Int)(n:Nat):Turn P w K tg (XS lo n) [it] it (fun i h=>IsRangeIter h it (lo + (i:Nat) * 1) ((n:Int) - (i:Nat)) 1) where
  mem:=by simp
  obj:=fun i h st b hb=>by
    have e:b=it:=by simpa using hb
    subst e;exact⟨_,st,fun v z=>by
      have z':Data.fields _=Data.cell v:=z;cases z'⟩
  keep:=fun i h h' st k=>k it (by simp) _ st
  item:=by intro X hP hw hK hc i pins s σ H E I hf st hg;subst hP hw hK;obtain⟨f0,f1,f2,f3,f4,f5⟩:=hf it (by simp);have W:=Walks.range (prog:=X.prog) (w:=X.w) (I.ok.hd hc) it lo 1 n;refine W.item i s _ _ hg st fun v h' tk hv st' kk=>?_;obtain⟨t,rfl⟩:=hv;have I1:Inv X pins σ H { s with heap:=h',toks:=tk }:=I.turned (fun b o hb e=>kk b o (by simpa using hb) e) f0 f1 f3 f4 f5;refine⟨_,rfl,LQ (s:={ s with heap:=h',toks:=tk }) (n:="range_iterator") st' rfl rfl (by decide) ⟨.int (lo + i),H,I1,⟨t,?_⟩,⟨rfl,rfl⟩,st',fun b hb=>(hf b hb).1⟩⟩;rw[Int.mul_one]
  done := by
    intro X hP hw hK hc i pins s σ H E I hf st hg;subst hP hw hK;obtain⟨f0,f1,f2,f3,f4,f5⟩:=hf it (by simp);exact wpAny_pyNext_range_end (I.ok.hd hc) st (by have:n<=i:=hg;lia) fun h' eb=>⟨rfl,I.turned (t':=s.toks) (fun b o hb e=>eb b o hb e) f0 f1 f3 f4 f5⟩
  self:=fun _ _ _ _ _ st h=>wpAny_pyIter_rangeiter st h
section
variable{X:Cx}{tg:ah}
noncomputable def aex(K:ai)(tl:TE):TI:=fun σ H R=>tl σ H fun x H1=>∃a,x=.ref a/\(∃xs,pU K H1 a xs)/\R (Itl K a) H1
noncomputable def ahi(K:ai)(tl:TE):TI:=fun σ H R=>tl σ H fun x H1=>∃a,x=.ref a/\(∃xs,jT K H1 a xs)/\R (Itt K a) H1
theorem Ma{l:ah}{tl:TE}(hl:PE X l tl):PI X tg l (aex X.K tl):=by
 intro pins s σ H R I h;refine iK (hl pins s σ H _ I h) fun v s1 fj=>?_;obtain⟨x,H1,I1,r1,q1⟩:=fj;obtain⟨a,e,⟨xs,hq⟩,q⟩:=q1;subst e;cases r1;obtain⟨its,rv,p,hz⟩:=I1.list hq;refine p_ p.isList ?_;refine⟨s1.heap.objs.size,[s1.heap.objs.size],_,_,H1,rfl,I1.kept (t':=s1.toks) fun b o e=>bS _ e,Pg a _,⟨_,cy _ rfl,rfl,rfl⟩,fun b hb=>?_,q⟩;have e:b=s1.heap.objs.size:=by simpa using hb
 subst e;exact I1.CJ (bz _) (I1.hok.fresh (bz _))
theorem Jr{l:ah}{tl:TE}(hl:PE X l tl):PI X tg l (ahi X.K tl):=by
 intro pins s σ H R I h;refine iK (hl pins s σ H _ I h) fun v s1 fj=>?_;obtain⟨x,H1,I1,r1,q1⟩:=fj;obtain⟨a,e,⟨xs,hq⟩,q⟩:=q1;subst e;cases r1;obtain⟨its,rv,p,hz⟩:=I1.tuple hq;refine tf (show s1.heap.IsTuple a its.toArray from p) ?_;refine⟨s1.heap.objs.size,[s1.heap.objs.size],_,_,H1,rfl,I1.kept (t':=s1.toks) fun b o e=>bS _ e,Jp a _,⟨_,cy _ rfl,rfl,rfl⟩,fun b hb=>?_,q⟩;have e:b=s1.heap.objs.size:=by simpa using hb
 subst e;exact I1.CJ (bz _) (I1.hok.fresh (bz _))
theorem Ga{pins:List (ae×Obj)}{σ:St}{H:Hp}{s:af}{R:It->Hp->Prop}{E:aa->af->Prop}{lo hi:Int}{t u v:Tok}{tk:Nat}(I:Inv X pins σ H s)(h1:-(2 ^ 62)<=lo)(h2:lo < 2 ^ 62)(h3:-(2 ^ 62)<=hi)(h4:hi < 2 ^ 62)
  (q:R (XS lo (hi - lo).toNat) H):ar (ax X.prog X.w) X.A (pyIter (.ref s.heap.objs.size)) (PIE X pins σ tg R) E { s with heap:=s.heap.push { cls:=.type "range",data:=.fields #[.int lo t,.int hi u,.int 1 v] },toks:=tk }:=by
 refine wpAny_pyIter_range (IsRange.new ..) (small_one h1 h2 h3 h4) ?_;have I1:Inv X pins σ H { s with heap:=s.heap.push { cls:=.type "range",data:=.fields #[.int lo t,.int hi u,.int 1 v] },toks:=tk }:=I.kept fun b o e=>bS _ e;refine⟨(s.heap.push { cls:=.type "range",data:=.fields #[.int lo t,.int hi u,.int 1 v] }).objs.size,[(s.heap.push { cls:=.type "range",data:=.fields #[.int lo t,.int hi u,.int 1 v] }).objs.size],_,_,H,rfl,
  I1.kept (t':=tk) fun b o e=>bS _ e,Jq _ lo (hi - lo).toNat,?_,fun b hb=>?_,q⟩
 ·have e1:lo + ((0:Nat):Int) * 1=lo:=by simp
  have e2:(((hi - lo).toNat:Nat):Int) - ((0:Nat):Int)=cw.Range.rangeSize lo hi 1:=by rw[rangeSize_one];split <;> lia
  show IsRangeIter _ _ (lo + ((0:Nat):Int) * 1) ((((hi - lo).toNat:Nat):Int) - ((0:Nat):Int)) 1;rw[e1,e2];exact cy _ rfl
 ·have e:b=(s.heap.push { cls:=.type "range",data:=.fields #[.int lo t,.int hi u,.int 1 v] }).objs.size:=by simpa using hb
  subst e;exact I1.CJ (bz _) (I1.hok.fresh (bz _))
noncomputable def aey(ta:TA):TI:=fun σ H R=>ta σ H fun vs H1=>∃j:Int,vs=[.int j]/\-(2 ^ 62)<=j/\j < 2 ^ 62/\R (XS 0 j.toNat) H1
noncomputable def aez(ta:TA):TI:=fun σ H R=>ta σ H fun vs H1=>∃i j:Int,vs=[.int i,.int j]/\(-(2 ^ 62)<=i/\i < 2 ^ 62/\-(2 ^ 62)<=j/\j < 2 ^ 62)/\R (XS i (j - i).toNat) H1
theorem Ph{a:ah}{ta:TA}{p pos:Pos}(hg:Gl X "range") (hm:X.mg "range"=none) (ha:PA X [a] ta) (hs:bg [a] X.env=[(false,aS a X.env)]:=by rfl):PI X tg (.Call (.Name "range" p) [a] [] pos) (aey ta):=by
 intro pins s σ H R I h;refine Call_ (qj I hg hm boot_range (oj (iK (ha pos pins s σ H _ I h) fun us s1 ⟨vs,H1,I1,r1,q1⟩=>?_) hs rfl));obtain⟨j,e,q1,q2,q⟩:=q1;subst e;cases r1 with
 |cons r rr =>
  cases rr;obtain⟨t,rfl⟩:=r;exact call_range_1 (Ga I1 (by lia) (by lia) q1 q2 (by simpa using q))
theorem Pj{a b:ah}{ta:TA}{p pos:Pos}(hg:Gl X "range") (hm:X.mg "range"=none) (ha:PA X [a,b] ta) (hs:bg [a,b] X.env=[(false,aS a X.env),(false,aS b X.env)]:=by rfl) (hs2:bg [b] X.env=[(false,aS b X.env)]:=by rfl) :
  PI X tg (.Call (.Name "range" p) [a,b] [] pos) (aez ta):=by
 intro pins s σ H R I h;refine Call_ (qj I hg hm boot_range (oj (iK (ha pos pins s σ H _ I h) fun us s1 ⟨vs,H1,I1,r1,q1⟩=>?_) (by rw[hs,hs2]) (by rw[hs2];rfl)));obtain⟨i,j,e,⟨q1,q2,q3,q4⟩,q⟩:=q1;subst e;cases r1 with
 |cons r rr =>
  cases rr with
  |cons r' rr =>
   cases rr;obtain⟨t,rfl⟩:=r;obtain⟨t',rfl⟩:=r';exact call_range_2 (Ga I1 q1 q2 q3 q4 q)
noncomputable def ahj(wi:TI)(g:TG)(tb:TS):TS:=fun D σ H=>wi σ H fun J H1=>∃W:Nat->Nat->St->Hp->Prop,(∃m,W 0 m σ H1)/\∀i m σ H,W i m σ H ->
 (J.stop i H/\D.nx σ H)∨(J.go i H/\∃N:St->Hp->Prop,(∀σ' H',N σ' H'->∃m',m' < m/\W (i + 1) m' σ' H')/\∀x H',J.yld i H x H'->g x σ H' fun σ2 H2=>tb { D with nx:=N,ct:=N,bk:=D.nx } σ2 H2)
noncomputable def uQ(fp:List ae)(h:Heap):List (ae×Obj):=fp.filterMap fun b=>(h.get? b).map fun o=>(b,o)
theorem pA{fp:List ae}{h:Heap}{b:ae}{o:Obj}(hb:b∈fp)(e:h.get? b=some o):(b,o)∈uQ fp h:=oi.mpr ⟨b,hb,by rw[e];rfl⟩
theorem Pk{fp:List ae}{h:Heap}{p:ae×Obj}(hp:p∈uQ fp h):p.1∈fp/\h.get? p.1=some p.2:=by
 obtain⟨b,hb,e⟩:=oi.mp hp;cases q:h.get? b with
 |none=>rw[q]at e;cases e
 |some o =>
  rw[q]at e;have e':(b,o)=p:=dk e;subst e';exact⟨hb,q⟩
theorem Inv.pinned{pins:List (ae×Obj)}{σ:St}{H:Hp}{s:af}{fp:List ae}(I:Inv X pins σ H s)(hf:∀b∈fp,mj X pins H b)(ho:∀b∈fp,∃o,s.heap.get? b=some o/\∀v,o.data≠.cell v):Inv X (pins++uQ fp s.heap) σ H s :=
 I.tV fun p hp=>(dQ.mp hp).elim (fun z=>I.pin p (fg _ z)) fun z=>by obtain⟨hb,e⟩:=Pk z;obtain⟨f0,f1,f2,_⟩:=hf p.1 hb;obtain⟨o,e',d⟩:=ho p.1 hb;rw[e]at e';cases e';exact⟨e,f0,f1,f2,d⟩
theorem Inv.tX{pins pl:List (ae×Obj)}{σ:St}{H:Hp}{s:af}(I:Inv X (pins++pl) σ H s):Inv X pins σ H s:=I.tV fun p hp=>I.pin p (fg _ (kQ _ hp))
theorem uR{iter:ah}{body:List bj}{wi:TI}{g:TG}{tb:TS}{pos:Pos}(hp:kT (ax X.prog X.w) X.A X.env X.xe)(hc:X.calm=true)(hi:PI X tg iter wi)(hg:PG X tg g)(hb:FJ X body tb)
  (hs:∀x,gc iter X.env x=pure x:=by intro _;rfl):PS X (.For tg iter body [] pos) (ahj wi g tb):=by
 intro pins s σ H D I h;refine wpAny_For (iK (hi pins s σ H _ I h) fun v s1 h1=>iK h1 fun itv s2 h2=>?_) hs;obtain⟨it,fp,tn,J,H2,e,I2,T,st2,f2,W,⟨m0,w0⟩,turn⟩:=h2;subst e;have stat:∀{H':Hp},(∀b∈fp,H' b=none)->∀b∈fp,mj X pins H' b:=fun hn b hb=>⟨hn b hb,(f2 b hb).2⟩
 refine codeAny_forLoop_any (fun n s'=>∃i σ' H',Inv X pins σ' H' s'/\tn i s'.heap/\(∀b∈fp,H' b=none)/\W i n σ' H') ?_ m0 ⟨0,σ,H2,I2,st2,fun b hb=>(f2 b hb).1,w0⟩;rintro n s3 ⟨i,σ3,H3,I3,st3,fr3,w3⟩;rcases turn i n σ3 H3 w3 with ⟨stop,qn⟩|⟨go,N,hN,step⟩
 ·refine om hp (iK (T.done X rfl rfl rfl hc i pins s3 σ3 H3 X.xe I3 (stat fr3) st3 stop) fun r s4 fj=>?_);obtain⟨hr,I4⟩:=fj;subst hr;exact p8 ⟨σ3,H3,I4,qn⟩
 ·refine om hp (iK (T.item X rfl rfl rfl hc i pins s3 σ3 H3 X.xe I3 (stat fr3) st3 go) fun r s4 fj=>?_);obtain⟨u,hr,h4⟩:=fj;subst hr;refine om hp (iK h4 fun _ s5 fj=>?_);obtain⟨x,H5,I5,r5,y5,st5,fr5⟩:=fj;have I5':=I5.pinned (stat fr5) (T.obj _ _ st5);refine om hp (iK (hg _ s5 σ3 H5 x u _ I5' r5 (step x H5 y5)) fun _ s6 fj=>?_);obtain⟨σ6,H6,I6,q6⟩:=fj;refine om hp (iK (hb _ s6 σ6 H6 _ I6 q6) fun f s7 q7=>?_);have again:∀{σ7:St}{H7:Hp},Inv X (pins++uQ fp s5.heap) σ7 H7 s7->N σ7 H7->∃m,m < n/\∃i σ' H',Inv X pins σ' H' s7/\tn i s7.heap/\(∀b∈fp,H' b=none)/\W i m σ' H':=fun {σ7 H7} I7 n7=>by obtain⟨m',hm,w7⟩:=hN σ7 H7 n7;refine⟨m',hm,i + 1,σ7,H7,I7.tX,T.keep _ _ _ st5 fun b hb o e=>(I7.pin (b,o) (fg _ (fg _ (pA hb e)))).1,fun b hb=>?_,w7⟩;obtain⟨o,e,d⟩:=T.obj _ _ st5 b hb;exact(I7.pin (b,o) (fg _ (fg _ (pA hb e)))).2.1
  cases f with
  |next=>obtain⟨σ7,H7,I7,n7⟩:=q7;exact again I7 n7
  |cont=>obtain⟨σ7,H7,I7,n7⟩:=q7;exact again I7 n7
  |brk=>obtain⟨σ7,H7,I7,q7⟩:=q7;exact⟨σ7,H7,I7.tX,q7⟩
  |ret v=>obtain⟨x7,σ7,H7,I7,r7,q7⟩:=q7;exact⟨x7,σ7,H7,I7.tX,r7,q7⟩
end
theorem RD{K:ai}{a:ae}{xs:List V}{g:TG}{tb:TS}{D:Ends}{σ:St}{H:Hp}(Pv:Nat->St->Hp->Prop)(h0:Pv 0 σ H)(hl:∀i σ H,i<=xs.length->Pv i σ H->pU K H a xs)
  (hs:∀i x σ H,xs[i]?=some x->Pv i σ H->g x σ H fun σ2 H2=>tb { D with nx:=Pv (i + 1),ct:=Pv (i + 1),bk:=D.nx } σ2 H2) (hd:∀σ H,Pv xs.length σ H->D.nx σ H) :
  ∃W:Nat->Nat->St->Hp->Prop,(∃m,W 0 m σ H)/\∀i m σ H,W i m σ H ->
   ((Itl K a).stop i H/\D.nx σ H)∨((Itl K a).go i H/\∃N:St->Hp->Prop,(∀σ' H',N σ' H'->∃m',m' < m/\W (i + 1) m' σ' H')/\∀x H',(Itl K a).yld i H x H'->g x σ H' fun σ2 H2=>tb { D with nx:=N,ct:=N,bk:=D.nx } σ2 H2):=by
 refine⟨fun i m σ H=>m=xs.length - i/\i<=xs.length/\Pv i σ H,⟨xs.length,by simp,fR _,h0⟩,?_⟩;rintro i m σ H ⟨rfl,hi,p⟩;have q:=hl i σ H hi p;by_cases hlt:i < xs.length
 ·refine .inr ⟨⟨xs,xs[i],q,by simp[hlt]⟩,Pv (i + 1),fun σ' H' p'=>⟨xs.length - (i + 1),by lia,rfl,hlt,p'⟩,fun x H' y=>?_⟩;obtain⟨e,y⟩:=y;subst e;exact hs i x σ _ (y xs q) p
 ·have e:i=xs.length:=by lia
  subst e;exact .inl ⟨⟨xs,q,bz _⟩,hd σ H p⟩
theorem Mf{K:ai}{a:ae}{xs:List V}{g:TG}{tb:TS}{D:Ends}{σ:St}{H:Hp}(Pv:Nat->St->Hp->Prop)(h0:Pv 0 σ H)(hl:∀i σ H,i<=xs.length->Pv i σ H->jT K H a xs)
  (hs:∀i x σ H,xs[i]?=some x->Pv i σ H->g x σ H fun σ2 H2=>tb { D with nx:=Pv (i + 1),ct:=Pv (i + 1),bk:=D.nx } σ2 H2) (hd:∀σ H,Pv xs.length σ H->D.nx σ H) :
  ∃W:Nat->Nat->St->Hp->Prop,(∃m,W 0 m σ H)/\∀i m σ H,W i m σ H ->
   ((Itt K a).stop i H/\D.nx σ H)∨((Itt K a).go i H/\∃N:St->Hp->Prop,(∀σ' H',N σ' H'->∃m',m' < m/\W (i + 1) m' σ' H')/\∀x H',(Itt K a).yld i H x H'->g x σ H' fun σ2 H2=>tb { D with nx:=N,ct:=N,bk:=D.nx } σ2 H2):=by
 refine⟨fun i m σ H=>m=xs.length - i/\i<=xs.length/\Pv i σ H,⟨xs.length,by simp,fR _,h0⟩,?_⟩;rintro i m σ H ⟨rfl,hi,p⟩;have q:=hl i σ H hi p;by_cases hlt:i < xs.length
 ·refine .inr ⟨⟨xs,xs[i],q,by simp[hlt]⟩,Pv (i + 1),fun σ' H' p'=>⟨xs.length - (i + 1),by lia,rfl,hlt,p'⟩,fun x H' y=>?_⟩;obtain⟨e,y⟩:=y;subst e;exact hs i x σ _ (y xs q) p
 ·have e:i=xs.length:=by lia
  subst e;exact .inl ⟨⟨xs,q,bz _⟩,hd σ H p⟩
theorem Pn{lo:Int}{n:Nat}{g:TG}{tb:TS}{D:Ends}{σ:St}{H:Hp}(Pv:Nat->St->Hp->Prop)(h0:Pv 0 σ H)
  (hs:∀i σ H,i < n->Pv i σ H->g (.int (lo + i)) σ H fun σ2 H2=>tb { D with nx:=Pv (i + 1),ct:=Pv (i + 1),bk:=D.nx } σ2 H2) (hd:∀σ H,Pv n σ H->D.nx σ H) :
  ∃W:Nat->Nat->St->Hp->Prop,(∃m,W 0 m σ H)/\∀i m σ H,W i m σ H ->
   ((XS lo n).stop i H/\D.nx σ H)∨((XS lo n).go i H/\∃N:St->Hp->Prop,(∀σ' H',N σ' H'->∃m',m' < m/\W (i + 1) m' σ' H')/\∀x H',(XS lo n).yld i H x H'->g x σ H' fun σ2 H2=>tb { D with nx:=N,ct:=N,bk:=D.nx } σ2 H2):=by
 refine⟨fun i m σ H=>m=n - i/\i<=n/\Pv i σ H,⟨n,by simp,fR _,h0⟩,?_⟩;rintro i m σ H ⟨rfl,hi,p⟩;by_cases hlt:i < n
 ·refine .inr ⟨hlt,Pv (i + 1),fun σ' H' p'=>⟨n - (i + 1),by lia,rfl,hlt,p'⟩,fun x H' y=>?_⟩;obtain⟨e,y⟩:=y;subst e y;exact hs i σ _ hlt p
 ·have e:i=n:=by lia
  subst e;exact .inl ⟨bz _,hd σ H p⟩
noncomputable abbrev R2:=V->V->Hp->VK->Prop
noncomputable def tR(X:Cx)(f:aa->aa->Sem aa)(r:R2):Prop :=
 ∀(pins:List (ae×Obj)) (s:af) (σ:St) (H:Hp) (x y:V) (v u:aa) (Q:VK),Inv X pins σ H s->RelV x v->RelV y u->r x y H Q ->
  ar (ax X.prog X.w) X.A (f v u) (EP X pins σ Q) X.xe s
noncomputable def UnR(X:Cx)(f:aa->Sem aa)(r:V->Hp->VK->Prop):Prop :=
 ∀(pins:List (ae×Obj)) (s:af) (σ:St) (H:Hp) (x:V) (v:aa) (Q:VK),Inv X pins σ H s->RelV x v->r x H Q ->
  ar (ax X.prog X.w) X.A (f v) (EP X pins σ Q) X.xe s
noncomputable def gj(X:Cx)(f:aa)(r:List V->Hp->VK->Prop):Prop :=
 ∀(pins:List (ae×Obj)) (s:af) (σ:St) (H:Hp) (xs:List V) (us:List aa) (Q:VK),Inv X pins σ H s->Vals xs us->r xs H Q ->
  ar (ax X.prog X.w) X.A (call f us) (EP X pins σ Q) X.xe s
noncomputable def tOp(r:R2)(ta tb:TE):TE:=fun σ H Q=>ta σ H fun x H1=>tb σ H1 fun y H2=>r x y H2 Q
noncomputable def tUn(r:V->Hp->VK->Prop)(ta:TE):TE:=fun σ H Q=>ta σ H fun x H1=>r x H1 Q
noncomputable def rI(C:Int->Int->Prop)(g:Int->Int->V):R2:=fun x y H Q=>∃i j,x=.int i/\y=.int j/\C i j/\Q (g i j) H
noncomputable def Yb(g:Int->Int->V):R2:=fun x y H Q=>∃i j,x=.int i/\y=.int j/\Q (g i j) H
noncomputable def rU(g:Int->V):V->Hp->VK->Prop:=fun x H Q=>∃i,x=.int i/\Q (g i) H
section
variable{X:Cx}{a b c:ah}{ta tb tc:TE}{pos:Pos}
theorem abK(ha:PE X a ta)(hb:PE X b tb){pins:List (ae×Obj)}{s:af}{σ:St}{H:Hp}{R:V->V->Hp->Prop}(I:Inv X pins σ H s)
  (h:ta σ H fun x H1=>tb σ H1 fun y H2=>R x y H2) {Q:aa->af->Prop}{f:aa->aa->Sem aa}
  (hf:∀v u s2 x y H2,Inv X pins σ H2 s2->RelV x v->RelV y u->R x y H2->ar (ax X.prog X.w) X.A (f v u) Q X.xe s2) :
  ar (ax X.prog X.w) X.A (aS a X.env) (fun v s₁=>ar (ax X.prog X.w) X.A (aS b X.env) (fun u s₂=>ar (ax X.prog X.w) X.A (f v u) Q X.xe s₂) X.xe s₁) X.xe s:=by
 refine iK (ha pins s σ H _ I h) fun v s1 fj=>?_;obtain⟨x,H1,I1,r1,q1⟩:=fj;refine iK (hb pins s1 σ H1 _ I1 q1) fun u s2 fj=>?_;obtain⟨y,H2,I2,r2,q2⟩:=fj;exact hf v u s2 x y H2 I2 r1 r2 q2
theorem aeB{op:Operator}{r:R2}(ho:tR X (i0 op) r)(ha:PE X a ta)(hb:PE X b tb):PE X (.BinOp a op b pos) (tOp r ta tb):=by intro pins s σ H Q I h;exact wpAny_BinOp (abK ha hb I h fun v u s2 x y H2 I2 rx ry q=>ho pins s2 σ H2 x y v u Q I2 rx ry q)
theorem aeC{op:UnaryOp}{r:V->Hp->VK->Prop}(ho:UnR X (unaryOp op) r)(ha:PE X a ta):PE X (.UnaryOp op a pos) (tUn r ta):=by intro pins s σ H Q I h;exact UnaryOp_ (iK (ha pins s σ H _ I h) fun v s1 ⟨x,H1,I1,r1,q1⟩=>ho pins s1 σ H1 x v Q I1 r1 q1)
theorem opI{f:aa->aa->Sem aa}{C:Int->Int->Prop}{g:Int->Int->Int}
  (rule:∀(i j:Int) (t u:Tok) (s:af) (Q:aa->af->Prop) (E:aa->af->Prop),C i j->Q (.int (g i j) s.toks) { s with toks:=s.toks + 1 }->ar (ax X.prog X.w) X.A (f (.int i t) (.int j u)) Q E s) :
  tR X f (rI C fun i j=>.int (g i j)):=by
 intro pins s σ H x y v u Q I rx ry h;obtain⟨i,j,rfl,rfl,hc,q⟩:=h;obtain⟨t,rfl⟩:=rx;obtain⟨t',rfl⟩:=ry;exact rule i j t t' s _ _ hc ⟨.int (g i j),H,I.tok _,⟨_,rfl⟩,q⟩
theorem aeD{f:aa->aa->Sem aa}{g:Int->Int->Int}
  (rule:∀(i j:Int) (t u:Tok) (s:af) (Q:aa->af->Prop) (E:aa->af->Prop),Q (.int (g i j) s.toks) { s with toks:=s.toks + 1 }->ar (ax X.prog X.w) X.A (f (.int i t) (.int j u)) Q E s) :
  tR X f (Yb fun i j=>.int (g i j)):=by
 intro pins s σ H x y v u Q I rx ry h;obtain⟨i,j,rfl,rfl,q⟩:=h;obtain⟨t,rfl⟩:=rx;obtain⟨t',rfl⟩:=ry;exact rule i j t t' s _ _ ⟨.int (g i j),H,I.tok _,⟨_,rfl⟩,q⟩
theorem abL{f:aa->aa->Sem aa}{g:Int->Int->Bool}
  (rule:∀(i j:Int) (t u:Tok) (s:af) (Q:aa->af->Prop) (E:aa->af->Prop),Q (.bool (g i j)) s->ar (ax X.prog X.w) X.A (f (.int i t) (.int j u)) Q E s) :
  tR X f (Yb fun i j=>.bl (g i j)):=by
 intro pins s σ H x y v u Q I rx ry h;obtain⟨i,j,rfl,rfl,q⟩:=h;obtain⟨t,rfl⟩:=rx;obtain⟨t',rfl⟩:=ry;exact rule i j t t' s _ _ ⟨.bl (g i j),H,I,rfl,q⟩
noncomputable def RG(i j:Int):Prop:=0<=j/\j<=1000000/\i.natAbs < 2 ^ 64
noncomputable def Js(i j:Int):Prop:=(-(2 ^ 64) < i/\i < 2 ^ 64)∨(-(2 ^ 64) < j/\j < 2 ^ 64)
theorem Js.ok{i j:Int}(h:Js i j):IntMulOk i j:=by
 rcases h with ⟨h1,h2⟩|⟨h1,h2⟩
 ·exact .of_left (intBits_le_64 h1 h2)
 ·exact .of_right (intBits_le_64 h1 h2)
theorem abM:tR X (i0 .Add) (Yb fun i j=>.int (i + j)):=aeD fun _ _ _ _ _ _ _ q=>add_int q
theorem abN:tR X (i0 .Sub) (Yb fun i j=>.int (i - j)):=aeD fun _ _ _ _ _ _ _ q=>sub_int q
theorem abO:tR X (i0 .Mult) (rI Js fun i j=>.int (i * j)):=opI fun _ _ _ _ _ _ _ hc q=>mul_int q hc.ok
theorem abP:tR X (i0 .Mod) (rI (fun _ j=>0 < j) fun i j=>.int (i % j)):=opI fun i j _ _ _ _ _ hc q=>by have h1:(0:Int) < j:=hc;exact mod_int' (by lia) (by rw[Int.fmod_eq_emod_of_nonneg i (by lia)];exact q)
theorem abQ:tR X (i0 .Pow) (rI RG fun i j=>.int (i ^ j.toNat)):=opI fun _ _ _ _ _ _ _ hc q=>pow_int_small hc.1 hc.2.1 hc.2.2 q
theorem unI{f:aa->Sem aa}{g:Int->Int}
  (rule:∀(i:Int) (t:Tok) (s:af) (Q:aa->af->Prop) (E:aa->af->Prop),Q (.int (g i) s.toks) { s with toks:=s.toks + 1 }->ar (ax X.prog X.w) X.A (f (.int i t)) Q E s) :
  UnR X f (rU fun i=>.int (g i)):=by
 intro pins s σ H x v Q I rx h;obtain⟨i,rfl,q⟩:=h;obtain⟨t,rfl⟩:=rx;exact rule i t s _ _ ⟨.int (g i),H,I.tok _,⟨_,rfl⟩,q⟩
theorem abR:UnR X (unaryOp .USub) (rU fun i=>.int (-i)):=unI fun _ _ _ _ _ q=>neg_int q
end
section
variable{X:Cx}{a b c:ah}{ta tb tc:TE}{pos:Pos}
theorem abS{pins:List (ae×Obj)}{σ:St}{H:Hp}{s:af}{Q:VK}{k k':Bool}(I:Inv X pins σ H s)(q:Q (.bl k) H)(e:k=k'):EP X pins σ Q (.bool k') s:=by subst e;exact⟨.bl k,H,I,rfl,q⟩
theorem aeE:tR X (gd .Lt) (Yb fun i j=>.bl (decide (i < j))):=abL fun _ _ _ _ _ _ _ q=>lt_int q
theorem aeF:tR X (gd .Gt) (Yb fun i j=>.bl (decide (j < i))):=abL fun _ _ _ _ _ _ _ q=>gt_int q
theorem aeG:tR X (gd .GtE) (Yb fun i j=>.bl (decide (j<=i))):=abL fun _ _ _ _ _ _ _ q=>ge_int q
theorem RJ:tR X (gd .Is) (fun x y H Q=>y=.non/\Q (.bl (decide (x=.non))) H):=by
 intro pins s σ H x y v u Q I rx ry h;obtain⟨rfl,q⟩:=h;cases ry;refine is_none_gen (abS I q ?_);cases x <;> first
  | (cases rx;rfl)
  | (obtain⟨t,rfl⟩:=rx;rfl)
theorem tR.or{f:aa->aa->Sem aa}{r r':R2}(h:tR X f r)(h':tR X f r'):tR X f (fun x y H Q=>r x y H Q∨r' x y H Q):=by
 intro pins s σ H x y v u Q I rx ry q;rcases q with q|q
 ·exact h pins s σ H x y v u Q I rx ry q
 ·exact h' pins s σ H x y v u Q I rx ry q
theorem uT(b:ah){op:kU}(h:op≠.In:=by decide)(h2:op≠.NotIn:=by decide):i3 op b=false:=by
 have e1:(op == kU.In)=false:=by cases op <;> first|rfl|exact absurd rfl h
 have e2:(op == kU.NotIn)=false:=by cases op <;> first|rfl|exact absurd rfl h2
 cases b <;> simp[i3,e1,e2]
theorem Ym{op:kU}{r:R2}(ho:tR X (gd op) r)(ha:PE X a ta)(hb:PE X b tb)(hm:i3 op b=false):PE X (.Compare a [op] [b] pos) (tOp r ta tb):=by intro pins s σ H Q I h;exact wpAny_Compare1 (abK ha hb I h fun v u s2 x y H2 I2 rx ry q=>ho pins s2 σ H2 x y v u Q I2 rx ry q) hm
noncomputable def aeH(t:TE):TT:=fun σ H Q=>t σ H fun x H'=>∃k,x=.bl k/\Q k H'
theorem Yn{op:kU}{r:R2}(ho:tR X (gd op) r)(ha:PE X a ta)(hb:PE X b tb)(hm:i3 op b=false):PT X (.Compare a [op] [b] pos) (aeH (tOp r ta tb)):=by
 intro pins s σ H Q I h;refine wpAny_isTrue_Compare1 (iK (ha pins s σ H _ I h) fun v s1 ⟨x,H1,I1,r1,q1⟩=>iK (hb pins s1 σ H1 _ I1 q1) fun u s2 ⟨y,H2,I2,r2,q2⟩ =>
  iK (ho pins s2 σ H2 x y v u _ I2 r1 r2 q2) fun c s3 ⟨z,H3,I3,r3,k,e,q3⟩=>?_) hm
 subst e;cases r3;exact kR ⟨H3,I3,q3⟩
theorem CK:(sizeLine:Nat) < 2 ^ 63:=by rw[eM];decide
theorem aaI{x:V}{us:List aa}(r:Vals [x] us):∃u,us=[u]/\RelV x u:=by
 cases r with
 |cons r1 r2=>cases r2;exact⟨_,rfl,r1⟩
theorem Mi{x y:V}{us:List aa}(r:Vals [x,y] us):∃u w',us=[u,w']/\RelV x u/\RelV y w':=by
 cases r with
 |cons r1 r2 =>
  cases r2 with
  |cons r3 r4=>cases r4;exact⟨_,_,rfl,r1,r3⟩
theorem Pq(hc:X.calm=true):gj X (.builtin "max") (fun xs H Q=>∃i j,xs=[.int i,.int j]/\Q (.int (if j > i then j else i)) H):=by
 intro pins s σ H xs us Q I r h;obtain⟨i,j,rfl,q⟩:=h;obtain⟨u,w',rfl,⟨t,rfl⟩,⟨t',rfl⟩⟩:=Mi r;refine max_two_ints (I.ok.hd hc) fun h' tk k=>⟨_,H,I.kept k,?_,q⟩
 by_cases hj:j > i
 ·rw[if_pos hj,if_pos hj];exact⟨_,rfl⟩
 ·rw[if_neg hj,if_neg hj];exact⟨_,rfl⟩
theorem Pu(hc:X.calm=true):gj X (.builtin "min") (fun xs H Q=>∃i j,xs=[.int i,.int j]/\Q (.int (if j < i then j else i)) H):=by
 intro pins s σ H xs us Q I r h;obtain⟨i,j,rfl,q⟩:=h;obtain⟨u,w',rfl,⟨t,rfl⟩,⟨t',rfl⟩⟩:=Mi r;refine min_two_ints (I.ok.hd hc) fun h' tk k=>⟨_,H,I.kept k,?_,q⟩
 by_cases hj:j < i
 ·rw[if_pos hj,if_pos hj];exact⟨_,rfl⟩
 ·rw[if_neg hj,if_neg hj];exact⟨_,rfl⟩
end
structure ajt (h:Heap)(x dx C:ae)(mA:Str->Option aa):Prop where
 obj:h.get? x=some (PySem.W.instObj C dx)
 ns:h.Ns1 dx mA
 ne:dx≠x
section
variable{prog:aE}{w:az}{A:aI}{E:aa->af->Prop}{s:af}{K:ai}{x dx C f:ae}{mA:Str->Option aa}{name:Str}{v:aa}
end
section
variable{P:aE}{w:az}{H H':Hp}{h h':Heap}{a C dx:ae}{fs fs':List (Str×V)}
end
structure Cls (K:ai)(C:ae):Prop where
 pg:PySem.W.plainGet K C Str.empty=true
 hd:PySem.W.hasDictIn K C=true
 po:PySem.W.plainOver K C=true
 sa:oo K (.ref C) "__setattr__"=some (some (.builtin "object.__setattr__"))
structure Con (K:ai)(C:ae)(f:Str)(v:V)(u:aa):Prop where
 at_:oo K (.ref C) f=some (some u)
 rel:RelV v u
 get:PySem.W.specialIn K u "__get__"=some none
 cp:PySem.W.copiedNames.contains f=false
structure Meth (K:ai)(C:ae)(m:Str)(f:ae):Prop where
 at_:oo K (.ref C) m=some (some (.ref f))
 fn:PySem.W.isFn K (.ref f)=true
 kp:j0 K (.ref f)=true
section
variable{X:Cx}{pins:List (ae×Obj)}{σ:St}{H:Hp}{s:af}{a C dx:ae}{fs:List (Str×V)}{f:Str}{v:V}{A:aI}{E:aa->af->Prop}
end
section
variable{X:Cx}{o e value:ah}{f:Str}{pos pos' tpos:Pos}{ta tv:TE}
end
section
variable{X:Cx}{pins:List (ae×Obj)}{σ:St}{H:Hp}{s:af}{A:aI}{E:aa->af->Prop}{Q:aa->af->Prop}{c:aa}{b:Bool}
inductive yC (K:ai) (H:Hp):V->aa->Prop where
 |non:yC K H .non (.type "NoneType")
 |bl (x:Bool):yC K H (.bl x) (.type "bool")
 |int (i:Int):yC K H (.int i) (.type "int")
 |str (x:Str):yC K H (.str x) (.type "str")
 |flt (x:UInt64):yC K H (.flt x) (.type "float")
 |lst {a:ae}{xs:List V}(e:H a=some (.lst xs)):yC K H (.ref a) (.type "list")
 |yt {a:ae}{o:Obj}{xs:List V}(e:H a=some (.yt o (.lst xs))):yC K H (.ref a) (.type "list")
 |tup {a:ae}{xs:List V}(e:H a=some (.tup xs)):yC K H (.ref a) (.type "tuple")
 |dK {a:ae}{kvs:List (Fy×V)}(e:H a=some (.dK kvs)):yC K H (.ref a) (.type "dict")
 |dT {a:ae}{kvs:List (List Fy×V)}(e:H a=some (.dT kvs)):yC K H (.ref a) (.type "dict")
 |ins {a C dx:ae}{fs:List (Str×V)}(e:H a=some (.ins C dx fs)) (cl:Cls K C) (ha:oo K (.ref C) "__class__"=some (some (.builtin "object.__class__")))
   (hn:PySem.W.specialIn K (.builtin "object.__class__") "__get__"=some (some (.builtin "getset_descriptor.__get__"))) (htk:PySem.W.takesIn K (.builtin "object.__class__")=some true)
   (hm:PySem.W.mroIn K C (.type "object")=some true):yC K H (.ref a) (.ref C)
end
structure lH (k:Nat)(A:aI):Prop where
 hd:A.handled=none
 dp:A.depth + 3 * k + 5 < tj
 un:A.units + 16 * k + 200 < bX
theorem lH.mono{j k:Nat}{A:aI}(r:lH k A)(h:j<=k):lH j A:=⟨r.hd,by have:=r.dp;lia,by have:=r.un;lia⟩
theorem lH.deeper{k:Nat}{A:aI}(r:lH (k + 1) A)(env:Env):lH k (A.deeper env) :=
 ⟨r.hd,by have:=r.dp;show A.depth + 1 + 3 * k + 5 < _;lia,by have:=r.un;show A.units + 3 + 16 * k + 200 < _;lia⟩
theorem lH.depth{k:Nat}{A:aI}(r:lH k A):A.depth < tj:=by have:=r.dp;lia
noncomputable def aeI:TA:=fun _ H Q=>Q [] H
noncomputable def aaJ(ta:TE)(tr:TA):TA:=fun σ H Q=>ta σ H fun x H1=>tr σ H1 fun xs H2=>Q (x::xs) H2
section
variable{X:Cx}{e:ah}{es:List ah}{te:TE}{t:TA}{pos:Pos}
theorem jJ:PA X [] aeI:=fun _ _ _ _ H Q I h=>Calls.spliced_nil ⟨[],H,I,.nil,h⟩
theorem eN(ha:PE X e te)(hr:PA X es t)(hs:bg (e::es) X.env=(false,aS e X.env)::bg es X.env:=by rfl):PA X (e::es) (aaJ te t):=by
 intro pos pins s σ H Q I h;rw[hs];show ar _ _ (spliced ((false,aS e X.env)::dt pos (bg es X.env))) _ _ s;refine Calls.spliced_cons (iK (ha pins s σ H _ I h) fun u s1 fj=>?_);obtain⟨x,H1,I1,r1,q1⟩:=fj;exact iK (hr pos pins s1 σ H1 _ I1 q1) fun us s2 ⟨xs,H2,I2,r2,q2⟩=>⟨x::xs,H2,I2,.cons r1 r2,q2⟩
noncomputable def ahm(t:TA):TE:=fun σ H Q=>t σ H fun xs H1=>xs.length<=sizeLine/\∀p,H1 p=none->Q (.ref p) (upd H1 p (.tup xs))
noncomputable def ahn(t:TA):TE:=fun σ H Q=>t σ H fun xs H1=>xs.length<=sizeLine/\∀p,H1 p=none->Q (.ref p) (upd H1 p (.lst xs))
theorem RK{x1}(h:PA X es t):PE X (.Tuple es x1 pos) (ahm t):=by intro pins s σ H Q I hq;refine wpAny_Tuple_spliced (iK (h pos pins s σ H _ I hq) fun us s1 ⟨xs,H1,I1,r,z,q⟩=>⟨by rw[<- r.length];exact z,?_⟩);have hf:H1 s1.heap.objs.size=none:=I1.hok.fresh (bz _);refine⟨.ref s1.heap.objs.size,upd H1 s1.heap.objs.size (.tup xs),I1.laid (t':=s1.toks) (fun b u e=>bS _ e) (bz _) ?_,rfl,q _ hf⟩;exact⟨z,us,r,⟨_,cy _ rfl,rfl,_,rfl⟩⟩
theorem Jt(h:PA X es t):PE X (.List es pos) (ahn t):=by intro pins s σ H Q I hq;refine wpAny_List_spliced (iK (h pos pins s σ H _ I hq) fun us s1 ⟨xs,H1,I1,r,z,q⟩=>⟨by rw[<- r.length];exact z,?_⟩);have hf:H1 s1.heap.objs.size=none:=I1.hok.fresh (bz _);refine⟨.ref s1.heap.objs.size,upd H1 s1.heap.objs.size (.lst xs),I1.laid (t':=s1.toks) (fun b u e=>bS _ e) (bz _) ?_,rfl,q _ hf⟩;exact⟨z,us,0,r,cy _ rfl⟩
end
noncomputable abbrev Sp:=List V->Hp->VK->XK->Prop
noncomputable abbrev CXT:=List Env->Hp->af->XK->aa->af->Prop
structure RL (P:aE)(w:az)(K:ai)(mg:Str->Option aa)(base:Heap)(A:aI)(outer:List Env)(s:af)(H:Hp):Prop where
 frames:A.frames=some outer
 mod:Mod K mg base
 bs:∀b o,base.get? b=some o->s.heap.get? b=some o/\H b=none
 Ru:base.objs.size<=s.heap.objs.size
 uP:s.heap.FunFrames base outer
 frf:∀b∈oZ outer,H b=none
 hok:tU P w H s.heap
 bare:kN s.gens
noncomputable def CE(outer:List Env)(P:aE)(w:az)(H:Hp)(s:af)(Q:VK)(u:aa)(s':af):Prop :=
 ∃v H',s'.os=s.os/\kN s'.gens/\Un (oZ outer) [] H H' s.heap s'.heap/\tU P w H' s'.heap/\RelV v u/\Q v H'
noncomputable def CR(CX:CXT)(outer:List Env)(P:aE)(w:az)(H:Hp)(s:af)(Q:VK)(E:XK)(r:Result)(s':af):Prop :=
 match r with
 | .ok (.ret u)=>CE outer P w H s Q u s'
 | .ok _=>False
 | .error e=>CX outer H s E e s'
structure Gb (P:aE)(w:az)(K:ai)(mg:Str->Option aa)(base:Heap)(CX:CXT)(k:Nat)(f:ae)(fd:dq)(ps:List Str)(sp:Sp):Prop where
 len:∀vs H Q E,sp vs H Q E->vs.length=ps.length
 run:∀(A:aI) (outer:List Env) (s:af) (H:Hp) (args:Args) (us:List aa) (vs:List V) (Q:VK) (E:XK),lH k A->RL P w K mg base A outer s H->ki s fd args (ps.zip us)->Vals vs us->sp vs H Q E ->
  fq (ax P w) A (.call (.ref f) args) (CR CX outer P w H s Q E) s
section
variable{X:Cx}{pins:List (ae×Obj)}{σ:St}{H:Hp}{s s':af}
theorem Inv.env0(I:Inv X pins σ H s):RL X.prog X.w X.K X.mg X.base X.A X.stack s H :=
 ⟨I.ok.frames,I.ok.mod,I.bs,et I.ok.Ru I.sz,I.stack,I.xP,I.hok,I.bare⟩
theorem Inv.after{Q:VK}{u:aa}(I:Inv X pins σ H s)(h:CE X.stack X.prog X.w H s Q u s'):EP X pins σ Q u s':=by obtain⟨v,H',os,bare,un,hok,r,q⟩:=h;obtain⟨hh,g,d,t,os'⟩:=s';obtain rfl:os'=s.os:=os;exact⟨v,H',I.call (h':=hh) (g':=g) (d':=d) (t':=t) (ch:=[]) un hok bare (fun b z=>absurd z (by simp)),r,q⟩
end
noncomputable def Binds(K:ai)(fd:dq)(ps:List Str)(ds:List aa):Prop :=
 ∀(s:af) (us:List aa),K.In s.heap->(us++ds).length=ps.length->ki s fd ⟨us,[]⟩ (ps.zip (us++ds))
theorem Binds.all{K:ai}{fd:dq}{ps:List Str}(h:∀us:List aa,us.length=ps.length->bindArgs fd ⟨us,[]⟩=pure (ps.zip us)):Binds K fd ps []:=fun s us _ hl=>by rw[i4]at hl ⊢;exact .of_eq (h us hl)
section
variable{X:Cx}{CX:CXT}{k:Nat}{f C:ae}{fd:dq}{ps:List Str}{sp:Sp}{dvs:List V}{ds:List aa}{E:XK}{x m:Str}{p pos apos:Pos}{e o:ah}{es:List ah}{ta:TE}{t:TA}
structure Mk (K:ai)(C f:ae):Prop where
 makes:PySem.W.makesIn K C=true
 init:oo K (.ref C) "__init__"=some (some (.ref f))
 fn:PySem.W.isFn K (.ref f)=true
 kp:j0 K (.ref C)=true
end
section
variable{X:Cx}{CX:CXT}{k:Nat}{f C:ae}{fd:dq}{ps ks:List Str}{sp:Sp}{E:XK}{x m:Str}{p pos apos kpos:Pos}{e o:ah}{es:List ah}{kws:List kX}{te ta:TE}{t tk:TA}{nm:Option Str}
structure aho (K:ai)(fd:dq)(ps ks:List Str)(g:List aa->List aa->List aa)(gV:List V->List V->List V):Prop where
 to:∀(s:af) (us ws:List aa),K.In s.heap->(g us ws).length=ps.length->ki s fd ⟨us,ks.zip ws⟩ (ps.zip (g us ws))
 rel:∀{vs:List V}{us:List aa}{zs:List V}{ws:List aa},Vals vs us->Vals zs ws->Vals (gV vs zs) (g us ws)
variable{g:List aa->List aa->List aa}{gV:List V->List V->List V}
end
structure bM (N P:List Str)(sc:Scope):Prop where
 kind:sc.kind=.function
 co:sc.isCoroutine=false
 gen:sc.isGenerator=false
 nd:N.Nodup
 pre:N.take P.length=P
 par:∀x∈P,sc.names.lookup x=some .local∨sc.names.lookup x=some .cell
 abT:∀y∈sc.names,y.2≠.free
theorem Az{kindOf:Str->Option eB}{x:Str}:∀{binds:List (Str×aa)}{m:Str->Option aa},(∀v,(x,v)∉binds)->ko kindOf binds m x=m x
 | [],_,_=>rfl
 | (n,v)::r,m,h=>by
  unfold ko;rw[Az fun w hw=>h w (dP _ hw)];split
  ·have:x≠n:=by rintro rfl;exact h v dC
   simp[this]
  ·rfl
theorem Ba{kindOf:Str->Option eB}{x:Str}:∀{binds:List (Str×aa)}{m:Str->Option aa},(∀v,(x,v)∉binds)->kq kindOf binds m x=m x
 | [],_,_=>rfl
 | (n,v)::r,m,h=>by
  unfold kq;rw[Ba fun w hw=>h w (dP _ hw)];split
  ·rfl
  ·have:x≠n:=by rintro rfl;exact h v dC
   simp[this]
theorem Bc{kindOf:Str->Option eB}{x:Str}{v:aa}:∀{P:List Str}{vs:List aa}{i:Nat}{m:Str->Option aa},P.Nodup->P[i]?=some x->vs[i]?=some v->kindOf x=some .local ->
  ko kindOf (P.zip vs) m x=some v
 | [],_,_,_,_,h,_,_=>by simp at h
 |_::_,[],_,_,_,_,h,_=>by simp at h
 |p::P,w::vs,0,m,nd,h1,h2,hk=>by simp at h1 h2;subst h1;subst h2;show ko kindOf ((p,w)::P.zip vs) m p=_;unfold ko;rw[Az fun v hv=>(k7.mp nd).1 (tm hv).1,if_pos hk];simp
 |p::P,w::vs,i + 1,m,nd,h1,h2,hk=>by show ko kindOf ((p,w)::P.zip vs) m x=_;unfold ko;exact Bc (i:=i) (k7.mp nd).2 (by simpa using h1) (by simpa using h2) hk
theorem Bd{kindOf:Str->Option eB}{x:Str}{v:aa}:∀{P:List Str}{vs:List aa}{i:Nat}{m:Str->Option aa},P.Nodup->P[i]?=some x->vs[i]?=some v->kindOf x≠some .local ->
  kq kindOf (P.zip vs) m x=some v
 | [],_,_,_,_,h,_,_=>by simp at h
 |_::_,[],_,_,_,_,h,_=>by simp at h
 |p::P,w::vs,0,m,nd,h1,h2,hk=>by simp at h1 h2;subst h1;subst h2;show kq kindOf ((p,w)::P.zip vs) m p=_;unfold kq;rw[Ba fun v hv=>(k7.mp nd).1 (tm hv).1,if_neg hk];simp
 |p::P,w::vs,i + 1,m,nd,h1,h2,hk=>by show kq kindOf ((p,w)::P.zip vs) m x=_;unfold kq;exact Bd (i:=i) (k7.mp nd).2 (by simpa using h1) (by simpa using h2) hk
noncomputable def start(N:List Str)(vs:List V):St:=vs.map some++i5 (N.length - vs.length) none
noncomputable def rQ(CX:CXT)(P:aE)(w:az)(K:ai)(mg:Str->Option aa)(base:Heap)(N:List Str)(qual:Str)(scope:Scope)(f:ae)(cd:aa)(A:aI)(outer:List Env)(s:af)(H:Hp)(E:XK):Cx where
 prog:=P
 w:=w
 K:=K
 mg:=mg
 base:=base
 A:=A.deeper (ku qual scope s.heap.objs.size f cd)
 N:=N
 s₀:=s
 H₀:=H
 env:=ku qual scope s.heap.objs.size f cd
 outer:=outer
 stack:=ku qual scope s.heap.objs.size f cd::outer
 ex:=[]
 calm:=true
 fn:=fun _=>true
 pn:=[]
 xe:=fun e s'=>ar (ax P w) (A.deeper (ku qual scope s.heap.objs.size f cd)) (leaving (ku qual scope s.heap.objs.size f cd) e) (fun _ s''=>CX outer H s E e s'') (fun e' s''=>CX outer H s E e' s'') s'
theorem Gd{sc:Scope}{n:Nat}{x:Str}(h:sc.names.lookup x=some .cell):∃c,(cellsFrom n sc.names []).lookup x=some c:=by have q:=PySem.W.cellsFrom_some sc.names n [] (.inl h);exact Option.isSome_iff_exists.mp q
theorem Py{CX:CXT}{P:aE}{w:az}{K:ai}{mg:Str->Option aa}{base:Heap}{N ps:List Str}{qual:Str}{scope:Scope}{f:ae}{cd:aa}{A:aI}{outer:List Env}{s s1:af}{H:Hp}{E:XK}{us:List aa}{vs:List V}
  (S:bM N ps scope) (hd:A.handled=none) (e0:RL P w K mg base A outer s H) (hl:vs.length=ps.length) (r:Vals vs us)
  (x:InCallC s s.heap.objs.size (ko (ku qual scope s.heap.objs.size f cd).kindOf (ps.zip us) fun _=>none) (cellsFrom (s.heap.objs.size + 1) scope.names []) (kq (ku qual scope s.heap.objs.size f cd).kindOf (ps.zip us) fun _=>none) s1) :
  Inv (rQ CX P w K mg base N qual scope f cd A outer s H E) [] (start N vs) H s1:=by
 have hpl:ps.length<=N.length:=by have:=congrArg il S.pre;rw[j3]at this;lia
 obtain⟨h1,tk,rfl,hk⟩:=x.done;have noA:∀b:ae,b∉(rQ CX P w K mg base N qual scope f cd A outer s H E).ex:=fun b z=>absurd (show b∈([]:List ae) from z) (by simp);refine⟨⟨e0.mod,S.kind,rfl,rfl,bz _,fun y z c h1 h2=>?_,fun y hy=>?_,fun y c _ h=>?_,fun _=>hd,aI.frames_deeper e0.frames,.inr ⟨rfl,rfl⟩,fun b z=>absurd z (noA b),e0.bs,e0.Ru,fun b _ _=>noA b,fun b z=>absurd z (noA b),e0.uP,e0.frf⟩,
  rfl,e0.bare,Un.kept hk,⟨_,x.toInCall.ns,fun i y v h1 h2 h3=>?_⟩,fun y c h=>⟨_,x.cell y c h⟩,e0.hok.fresh (bz _),fun y c h=>?_,fun p hp=>absurd (show p∈([]:List (ae×Obj)) from hp) (by simp),e0.hok.kept hk,?_⟩
 ·exact name_of_addr x.apart (g9 h1) (g9 h2)
 ·have hy:scope.names.lookup y=some .cell∨scope.names.lookup y=some .free:=hy;rcases hy with hy|hy
  ·exact Gd hy
  ·exact absurd rfl (S.abT _ (g9 hy))
 ·exact iX (x.above y c (g9 h))
 ·have hi:i < vs.length:=by
   unfold start at h2;by_cases hi:i < vs.length
   ·exact hi
   ·rw[i6 (by simpa using hi)]at h2;rw[ml]at h2;split at h2 <;> cases h2
  have ha:vs[i]?=some v:=by
   unfold start at h2;rw[i7 (by simpa using hi),cK]at h2;cases e:vs[i]? with
   |none=>rw[e]at h2;cases h2
   |some a=>rw[e]at h2;cases h2;rfl
  obtain⟨u,hu,rv⟩:=r.get ha;have hp:ps[i]?=some y:=by rw[<- S.pre,mo (by lia)];exact h1
  have ndP:ps.Nodup:=by rw[<- S.pre];exact S.nd.sublist (qc _ _)
  refine⟨u,rv,?_⟩;rcases S.par y (mv hp) with k|k
  ·exact .inl ⟨k,Bc ndP hp hu k⟩
  ·obtain⟨c,e⟩:=Gd (n:=s.heap.objs.size + 1) k;refine .inr ⟨.inl k,c,e,?_⟩;have q:=x.cell y c e;rw[Bd ndP hp hu (by show scope.names.lookup y≠_;rw[k];decide)]at q;exact q
 ·exact e0.hok.fresh (iX (x.above y c (g9 h)))
 ·unfold start;show _=N.length;rw[dE,cx,oq];lia
theorem aaM{CX:CXT}{P:aE}{w:az}{K:ai}{mg:Str->Option aa}{base:Heap}{k:Nat}{f:ae}{name qual:Str}{params:mw}{body:List bj}{scope:Scope}{dV kV doc pm cdv ct oc:aa}{an od:Option ae}
  {osl:Array (Option aa)}{N ps:List Str}{sp:Sp}(lk:K.lookup f=some ⟨oc,od,.func (gf name qual params body scope dV kV doc pm an cdv ct),osl⟩) (hcd:my K cdv qual=true) (S:bM N ps scope)
  (len:∀vs H Q E,sp vs H Q E->vs.length=ps.length)
  (hbody:∀(A:aI) (outer:List Env) (s:af) (H:Hp) (vs:List V) (Q:VK) (E:XK),lH k (A.deeper (ku qual scope s.heap.objs.size f cdv))->tU P w H s.heap->sp vs H Q E ->
   ∃t,FJ (rQ CX P w K mg base N qual scope f cdv A outer s H E) body t/\t { nx:=fun _ H'=>Q .non H',rt:=Q } (start N vs) H) :
  Gb P w K mg base CX (k + 1) f (gf name qual params body scope dV kV doc pm an cdv ct) ps sp:=by
 refine⟨len,fun A outer s H args us vs Q E hr e0 hb r hsp=>?_⟩;have hl:=len _ _ _ _ hsp;have KX:K.In s.heap:=e0.mod.Rt.keeps fun b o e=>(e0.bs b o e).1;have lim:s.heap.NoLimit:=e0.mod.nolimit.keeps fun b o e=>(e0.bs b o e).1;have hkind:∀y∈ps.zip us,scope.names.lookup y.1=some .local∨(scope.names.lookup y.1=some .cell/\((cellsFrom (s.heap.objs.size + 1) scope.names []).lookup y.1).isSome=true):=fun⟨n,v⟩ hy=>by
  rcases S.par n (tm hy).1 with q|q
  ·exact .inl q
  ·exact .inr ⟨q,PySem.W.cellsFrom_some _ _ _ (.inl q)⟩
 refine codeAny_call_function hr.depth (KX _ _ lk) rfl S.co S.gen rfl (PySem.W.codeRec_of KX hcd) (hb _ _ _ _ ?_);refine wpAny_newFunctionEnv_cells S.kind hkind fun env he s1 x=>?_;subst he;refine⟨lim.keeps x.toInCall.keep,codeAny_func ?_⟩;obtain⟨t,ht,hq⟩:=hbody A outer s H vs Q E (hr.deeper _) e0.hok hsp;have I:Inv (rQ CX P w K mg base N qual scope f cdv A outer s H E) [] (start N vs) H s1:=Py S hr.hd e0 hl r x;refine dS (ht [] s1 (start N vs) H _ I hq) (fun fl s' hs=>?_) fun e s' hs=>hs;have dY:∀{σ':St}{H':Hp}{v:V}{u:aa},Inv (rQ CX P w K mg base N qual scope f cdv A outer s H E) [] σ' H' s'->RelV v u->Q v H'->CE outer P w H s Q u s' :=
  fun {σ' H' v u} J rv q=>⟨v,H',J.os,J.bare,J.base,J.hok,rv,q⟩
 cases fl with
 |ret u =>
  obtain⟨v,σ',H',J,rv,q⟩:=hs;exact dY J rv q
 |next =>
  obtain⟨σ',H',J,q⟩:=hs;exact dY (v:=V.non) (u:=aa.none) J rfl q
 |brk =>
  obtain⟨_,_,_,q⟩:=hs;exact ik q
 |cont =>
  obtain⟨_,_,_,q⟩:=hs;exact ik q
section
variable{X:Cx}{x:Str}{p pos:Pos}{e:ah}{es:List ah}{t:TA}{id T:String}{r:List V->Hp->VK->Prop}
noncomputable def tCB(r:List V->Hp->VK->Prop)(t:TA):TE:=fun σ H Q=>t σ H fun vs H1=>r vs H1 Q
theorem ql(hc:gj X (.builtin id) r) (hg:Gl X x) (hm:X.mg x=none) (hv:gT x=some (.builtin id)) (ha:PA X (e::es) t) (hn:x≠"__name__":=by decide) (hdb:uN x:=by decide)
  (he:bg (e::es) X.env=(false,aS e X.env)::bg es X.env:=by rfl) (hpl:(dt pos (bg es X.env)).any (·.1)=false:=by rfl):PE X (.Call (.Name x p) (e::es) [] pos) (tCB r t):=by
 intro pins s σ H Q I h;refine qf (qj I hg hm hv ?_ hn hdb);exact PyProof.Rows.callWith_builtin1 (iK (ha pos pins s σ H _ I h) fun us s1 ⟨vs,H1,I1,r1,q1⟩=>hc pins s1 σ H1 vs us Q I1 r1 q1) he hpl
theorem Bf(hc:gj X (.type T) r) (hg:Gl X x) (hm:X.mg x=none) (hv:gT x=some (.type T)) (ha:PA X (e::es) t) (hn:x≠"__name__":=by decide) (hdb:uN x:=by decide)
  (he:bg (e::es) X.env=(false,aS e X.env)::bg es X.env:=by rfl) (hpl:(dt pos (bg es X.env)).any (·.1)=false:=by rfl):PE X (.Call (.Name x p) (e::es) [] pos) (tCB r t):=by
 intro pins s σ H Q I h;refine qf (qj I hg hm hv ?_ hn hdb);exact oj (iK (ha pos pins s σ H _ I h) fun us s1 ⟨vs,H1,I1,r1,q1⟩=>hc pins s1 σ H1 vs us Q I1 r1 q1) he hpl
end
end L2
namespace HT
open PySem PyProof.Rows
section
open PySem.SeqAt
open PySem.AutoSeq1 (wpAny_loadPart')
open PySem.MeetsSeq PySem.MeetsSeq2 PySem.MeetsSeq3
end
section
variable{prog:aE}{w:az}{A:aI}{E:aa->af->Prop}{s:af}
noncomputable def FN(n d:Nat):Option Int->Nat
 |none=>d
 |some v=>if v < 0 then (v + (n:Int)).toNat else min v.toNat n
end
end HT
namespace L2
open PySem PySem.Spec PyProof.Rows
noncomputable abbrev TO:=St->Hp->(Option Int->Hp->Prop)->Prop
noncomputable def PO(X:Cx)(e:Option ah)(t:TO):Prop :=
 ∀(pins:List (ae×Obj)) (s:af) (σ:St) (H:Hp) (Q:Option Int->Hp->Prop),Inv X pins σ H s->t σ H Q ->
  ar (ax X.prog X.w) X.A (evalPart e X.env) (fun u s'=>∃o H',Inv X pins σ H' s'/\IsPart u o/\Q o H') X.xe s
noncomputable def aeJ(t:TE):TO:=fun σ H Q=>t σ H fun x H1=>∃i,x=.int i/\Q (some i) H1
theorem Ju{ns:List Int}:∀{us:List aa},Vals (ns.map V.int) us->ox us ns:=by
 induction ns with
 |nil=>intro us r;rw[j4]at r;cases r;exact .nil
 |cons n ns ih =>
  intro us r;rw[cb]at r;cases r with
  |cons r1 r2 =>
   obtain⟨t,e⟩:=r1;subst e;exact .cons n t (ih r2)
section
variable{X:Cx}{e:ah}{te:TE}{lo hi:Option ah}{tl th:TO}{pos p2:Pos}
theorem Yo(h:PE X e te):PO X (some e) (aeJ te):=by intro pins s σ H Q I hw;rw[evalPart_some];refine iK (h pins s σ H _ I hw) fun u s1 fj=>?_;obtain⟨x,H1,I1,r1,q1⟩:=fj;obtain⟨i,rfl,q⟩:=q1;obtain⟨t,rfl⟩:=r1;exact⟨some i,H1,I1,.int i t,q⟩
noncomputable def SlR(X:Cx)(r:V->Option Int->Option Int->Hp->VK->Prop):Prop :=
 ∀(pins:List (ae×Obj)) (s:af) (σ:St) (H:Hp) (x:V) (v vl vu:aa) (lo hi:Option Int) (sl:ae) (Q:VK),Inv X pins σ H s->RelV x v->s.heap.IsSliceOf sl vl vu .none->IsPart vl lo->IsPart vu hi->r x lo hi H Q ->
  ∃T id,typeLookup (.type T) "__getitem__"=pure (some (.builtin id))/\s.TypeIs v T/\ar (ax X.prog X.w) X.A (getItem v (.ref sl)) (EP X pins σ Q) X.xe s
noncomputable def tSl(r:V->Option Int->Option Int->Hp->VK->Prop)(te:TE)(tl th:TO):TE:=fun σ H Q=>te σ H fun x H1=>tl σ H1 fun l H2=>th σ H2 fun u H3=>r x l u H3 Q
theorem RM{r:V->Option Int->Option Int->Hp->VK->Prop}(hr:SlR X r)(he:PE X e te)(hl:PO X lo tl)(hu:PO X hi th):PE X (.Subscript e (.Slice lo hi none p2) pos) (tSl r te tl th):=by intro pins s σ H Q I h;refine Subscript_ (iK (he pins s σ H _ I h) fun v s1 fj=>?_);obtain⟨x,H1,I1,r1,q1⟩:=fj;refine wpAny_Slice (iK (hl pins s1 σ H1 _ I1 q1) fun vl s2 ⟨l,H2,I2,pl,q2⟩=>iK (hu pins s2 σ H2 _ I2 q2) fun vu s3 fj=>?_);obtain⟨u,H3,I3,pu,q3⟩:=fj;rw[evalPart_none];refine a_ ?_;have I4:Inv X pins σ H3 { s3 with heap:=s3.heap.push { cls:=.type "slice",data:=.fields #[vl,vu,.none] } }:=I3.kept (t':=s3.toks) fun b ob q=>bS _ q;obtain⟨T,id,hT,ht,hg⟩:=hr pins { s3 with heap:=s3.heap.push { cls:=.type "slice",data:=.fields #[vl,vu,.none] } } σ H3 x v vl vu l u s3.heap.objs.size Q I4 r1 (Heap.IsSliceOf.new ..) pl pu q3;show ar (ax X.prog X.w) X.A (subscriptTail e (.Slice lo hi none p2) v (.ref s3.heap.objs.size)) (EP X pins σ Q) X.xe { s3 with heap:=s3.heap.push { cls:=.type "slice",data:=.fields #[vl,vu,.none] } };exact tail_any (ops:=[.ref s3.heap.objs.size,v]) ht hT hg (by with_unfolding_all rfl)
noncomputable def Jv(xs:List V)(lo hi:Option Int):List V:=(xs.drop (HT.FN xs.length 0 lo)).take (HT.FN xs.length xs.length hi - HT.FN xs.length 0 lo)
theorem Ge(xs:List V)(lo hi:Option Int):(Jv xs lo hi).length<=xs.length:=by unfold Jv;rw[j3,mB];lia
end
noncomputable def Pz(n:Nat)(i:Int):Option Nat:=if 0<=i then (if i < n then some i.toNat else none) else if-(n:Int)<=i then some (i + n).toNat else none
noncomputable def xR{α:Type}(xs:List α)(i:Int):Option α:=(Pz xs.length i).bind fun j=>xs[j]?
theorem Yp{n:Nat}{i:Int}{j:Nat}(h:Pz n i=some j):seqIndex? i n=some j/\j < n/\-(n:Int)<=i/\i < n:=by
 unfold Pz at h;by_cases h0:0<=i
 ·rw[if_pos h0]at h;by_cases h1:i < n
  ·rw[if_pos h1]at h;have e:i.toNat=j:=dk h;exact⟨by rw[seqIndex_of h0 h1,e],by lia,by lia,h1⟩
  ·rw[if_neg h1]at h;cases h
 ·rw[if_neg h0]at h;by_cases h1:-(n:Int)<=i
  ·rw[if_pos h1]at h;have e:(i + n).toNat=j:=dk h;exact⟨by rw[seqIndex_neg (by lia) h1,e],by lia,h1,by lia⟩
  ·rw[if_neg h1]at h;cases h
theorem CN{α:Type}{xs:List α}{i:Int}{v:α}(h:xR xs i=some v):∃j,seqIndex? i xs.length=some j/\xs[j]?=some v/\j < xs.length/\-(xs.length:Int)<=i/\i < xs.length:=by
 unfold xR at h;cases e:Pz xs.length i with
 |none=>rw[e]at h;cases h
 |some j =>
  rw[e]at h;obtain⟨h1,h2,h3,h4⟩:=Yp e;exact⟨j,h1,h,h2,h3,h4⟩
theorem Yq{α:Type}{xs:List α}{j:Nat}{v:α}(h:xs[j]?=some v):xR xs (j:Int)=some v:=by
 have hj:j < xs.length:=(df.mp h).1;have e:Pz xs.length (j:Int)=some j:=by unfold Pz;rw[if_pos (by lia),if_pos (by lia)];simp
 unfold xR;rw[e];exact h
noncomputable def xT(b:ah):Prop:=∀o i,subscripted b false o i=operate [o,i] (getItem o i)
noncomputable def Yc(X:Cx)(r:R2):Prop :=
 ∀(value slice:ah) (pins:List (ae×Obj)) (s:af) (σ:St) (H:Hp) (x y:V) (v u:aa) (Q:VK),Inv X pins σ H s->RelV x v->RelV y u->r x y H Q ->
  subscripted slice false v u=operate [v,u] (getItem v u)->ar (ax X.prog X.w) X.A (subscriptTail value slice v u) (EP X pins σ Q) X.xe s
noncomputable def MtR(X:Cx)(id:String)(r:V->List V->Hp->VK->Prop):Prop :=
 ∀(pins:List (ae×Obj)) (s:af) (σ:St) (H:Hp) (x:V) (xs:List V) (v:aa) (us:List aa) (Q:VK),Inv X pins σ H s->RelV x v->Vals xs us->r x xs H Q ->
  ar (ax X.prog X.w) X.A (call (.builtin id) (v::us)) (EP X pins σ Q) X.xe s
section
variable{X:Cx}{a b:ah}{ta tb:TE}{pos:Pos}
theorem Yc.or{r r':R2}(h:Yc X r)(h':Yc X r'):Yc X (fun x y H Q=>r x y H Q∨r' x y H Q):=by
 intro value slice pins s σ H x y v u Q I rx ry q hs;rcases q with q|q
 ·exact h value slice pins s σ H x y v u Q I rx ry q hs
 ·exact h' value slice pins s σ H x y v u Q I rx ry q hs
theorem RN{r:R2}(hr:Yc X r)(ha:PE X a ta)(hb:PE X b tb)(hs:xT b):PE X (.Subscript a b pos) (tOp r ta tb):=by intro pins s σ H Q I h;exact Subscript_ (abK ha hb I h fun v u s2 x y H2 I2 rx ry q=>hr a b pins s2 σ H2 x y v u Q I2 rx ry q (hs _ _))
noncomputable def aeK(K:ai):R2:=fun x y H Q=>∃p xs i v,x=.ref p/\y=.int i/\pU K H p xs/\xR xs i=some v/\Q v H
noncomputable def aeL(K:ai):R2:=fun x y H Q=>∃p xs i v,x=.ref p/\y=.int i/\jT K H p xs/\xR xs i=some v/\Q v H
noncomputable def aeM:R2:=fun x y H Q=>∃z i c,x=.str z/\y=.int i/\z.length<=sizeLine/\xR z.cps.toList i=some c/\Q (.str ⟨#[c]⟩) H
theorem Yr:Yc X (aeK X.K):=by
 intro value slice pins s σ H x y v u Q I rx ry h hs;obtain⟨p,xs,i,z,rfl,rfl,hq,he,q⟩:=h;cases rx;obtain⟨t,rfl⟩:=ry;obtain⟨its,r,pl,hz⟩:=I.list hq;obtain⟨j,h1,h2,h3,h4,h5⟩:=CN he;obtain⟨w,ew,Ys⟩:=r.get h2;have hl:=r.length;have hn:=CK;have dY:EP X pins σ Q w s:=⟨z,H,I,Ys,q⟩
 by_cases h0:0<=i
 ·have hj:i.toNat=j:=by rw[seqIndex_of h0 h5]at h1;exact dk h1
  exact item_listR pl.isList h0 (by lia) (by rw[hj];simpa using ew) dY hs
 ·have hj:(i + (its.toArray.size:Int)).toNat=j:=by rw[seqIndex_neg (by lia) h4]at h1;rw[cE,<- hl];exact dk h1
  exact subscriptTail_builtinR (x:=w) pl.isList.typeIs slot_list_getitem.lookup
   (wpAny_getItem_list_neg (Q:=fun r s'=>r=w/\EP X pins σ Q r s') pl.isList (by lia) (by rw[cE] <;> lia) (by lia) (by rw[hj];simpa using ew) ⟨rfl,dY⟩) hs
theorem RQ:Yc X (aeL X.K):=by
 intro value slice pins s σ H x y v u Q I rx ry h hs;obtain⟨p,xs,i,z,rfl,rfl,hq,he,q⟩:=h;cases rx;obtain⟨t,rfl⟩:=ry;obtain⟨its,r,pl,hz⟩:=I.tuple hq;obtain⟨j,h1,h2,h3,h4,h5⟩:=CN he;obtain⟨w,ew,Ys⟩:=r.get h2;have hl:=r.length;have hn:=CK;have dY:EP X pins σ Q w s:=⟨z,H,I,Ys,q⟩
 exact subscriptTail_builtinR (x:=w) pl.typeIs slot_tuple_getitem.lookup
  (getItem_tuple (j:=j) (Q:=fun r s'=>r=w/\EP X pins σ Q r s') pl (by lia) (by lia) (by rw[cE,<- hl];exact h1) (by simpa using ew) ⟨rfl,dY⟩) hs
theorem abU:Yc X aeM:=by
 intro value slice pins s σ H x y v u Q I rx ry h hs;obtain⟨z,i,c,rfl,rfl,hz,he,q⟩:=h;obtain⟨t,rfl⟩:=rx;obtain⟨t',rfl⟩:=ry;obtain⟨j,h1,h2,h3,h4,h5⟩:=CN he;have hl:z.cps.toList.length=z.length:=by simp[Str.length]
 rw[hl]at h1 h4 h5;have hn:=CK;exact tail_any (typeIs_str s z t) slot_str_getitem.lookup (getItem_str (c:=c) (by
  have e1:decide (i < -(2 ^ 63:Int))=false:=decide_eq_false (by lia);have e2:decide (i ≥ 2 ^ 63)=false:=decide_eq_false (by lia);rw[e1,e2,Bool.or_false]) (by rw[h1];simpa using h2) ⟨.str ⟨#[c]⟩,H,I.tok _,⟨_,rfl⟩,q⟩) hs
noncomputable def rIx(K:ai):R2:=fun x y H Q=>aeK K x y H Q∨aeL K x y H Q∨aeM x y H Q
theorem abV:Yc X (rIx X.K):=Yr.or (RQ.or abU)
theorem CP(lo hi:Option Int)(n:Nat):(k8 lo hi none n).1=((HT.FN n 0 lo:Nat):Int)/\(k8 lo hi none n).2.1=((HT.FN n n hi:Nat):Int)/\(k8 lo hi none n).2.2=1:=by
 refine⟨?_,?_,rfl⟩
 ·cases lo with
  |none=>simp[k8,HT.FN]
  |some i =>
   simp only[k8,HT.FN,Option.getD_none,show(1:Int) > 0 by decide,if_true];by_cases h:i < 0
   ·simp only[h,if_true] <;> lia
   ·simp only[h,if_false] <;> lia
 ·cases hi with
  |none=>simp[k8,HT.FN]
  |some i =>
   simp only[k8,HT.FN,Option.getD_none,show(1:Int) > 0 by decide,if_true];by_cases h:i < 0
   ·simp only[h,if_true] <;> lia
   ·simp only[h,if_false] <;> lia
theorem Af(its:List aa)(lo hi:Option Int):slicePick its.toArray lo hi none=((its.drop (HT.FN its.length 0 lo)).take (HT.FN its.length its.length hi - HT.FN its.length 0 lo)).toArray:=by obtain⟨h1,h2,h3⟩:=CP lo hi its.toArray.size;unfold slicePick;rw[h1,h2,h3];simp only[sliceRange_one,pick_run,cE] <;> rfl
noncomputable def aeN(K:ai):V->Option Int->Option Int->Hp->VK->Prop:=fun x lo hi H Q=>∃a xs,x=.ref a/\pU K H a xs/\∀p,H p=none->Q (.ref p) (upd H p (.lst (Jv xs lo hi)))
theorem Yt:SlR X (aeN X.K):=by intro pins s σ H x v vl vu lo hi sl Q I rx hs pl pu h;obtain⟨a,xs,rfl,hx,q⟩:=h;cases rx;obtain⟨its,r,ht,hz⟩:=I.list hx;have hlen:=r.length;refine⟨"list",_,slot_list_getitem.lookup,ht.isList.typeIs,?_⟩;refine wpAny_getItem_list_slice ht.isList hs pl pu .none (by simp) ?_ (by rw[cE] <;> lia);rw[Af,<- hlen];refine⟨.ref s.heap.objs.size,_,I.laid (t':=s.toks) (o:=.lst (Jv xs lo hi)) (fun b ob q=>bS _ q) (bz _) ?_,rfl,q _ (I.hok.fresh (bz _))⟩;exact⟨et (Ge xs lo hi) hz,_,0,(r.drop (HT.FN xs.length 0 lo)).take (HT.FN xs.length xs.length hi - HT.FN xs.length 0 lo),cy _ rfl⟩
theorem CQ:gj X (.builtin "len") (fun xs H Q=>∃p ys,xs=[.ref p]/\(pU X.K H p ys∨jT X.K H p ys)/\Q (.int ys.length) H):=by
 intro pins s σ H xs us Q I r h;obtain⟨p,ys,rfl,hq,q⟩:=h;obtain⟨u,rfl,rx⟩:=aaI r;cases rx;have hn:=CK;rcases hq with hq|hq
 ·obtain⟨its,r',pl,hz⟩:=I.list hq;have hlen:=r'.length;exact Calls.call_len_list pl.isList (by simp only[cE] <;> lia) ⟨.int ys.length,H,I.tok _,⟨s.toks + 1,by rw[cE,hlen]⟩,q⟩
 ·obtain⟨its,r',pl,hz⟩:=I.tuple hq;have hlen:=r'.length;exact len_tuple pl (by simp only[cE] <;> lia) ⟨.int ys.length,H,I.tok _,⟨s.toks + 1,by rw[cE,hlen]⟩,q⟩
theorem Ag:gj X (.type "tuple") (fun xs H Q=>∃p ys,xs=[.ref p]/\((pU X.K H p ys/\∀l,H l=none->Q (.ref l) (upd H l (.tup ys)))∨(jT X.K H p ys/\Q (.ref p) H))):=by
 intro pins s σ H xs us Q I r h;obtain⟨p,ys,rfl,h⟩:=h;obtain⟨u,rfl,rx⟩:=aaI r;cases rx;rcases h with ⟨hq,q⟩|⟨hq,q⟩
 ·obtain⟨its,r',pl,hz⟩:=I.list hq;have hlen:=r'.length;refine call_tuple_list pl.isList (fun h' kp=>?_) (by simp only[cE] <;> lia);have I1:Inv X pins σ H { s with heap:=h' }:=I.kept (t':=s.toks) kp;have I2:Inv X pins σ (upd H h'.objs.size (.tup ys)) { s with heap:=h'.push { cls:=.type "tuple",data:=.seq its.toArray } } :=
   I1.laid (t':=s.toks) (fun b o e=>bS _ e) (bz _) (show dW X.prog X.w _ _ _ (.tup ys) from⟨hz,its,r',IsTup.new _ _⟩)
  exact⟨.ref h'.objs.size,_,I2,rfl,q _ (I1.hok.fresh (bz _))⟩
 ·obtain⟨its,r',pl,hz⟩:=I.tuple hq;exact call_tuple_same pl ⟨.ref p,H,I,rfl,q⟩
noncomputable def tyV(K:ai)(T:String)(x:V)(H:Hp):Prop:=match x with
 | .str _=>T="str"
 | .int _=>T="int"
 | .ref p=>(T="list"/\∃xs,pU K H p xs)∨(T="tuple"/\∃o,K.lookup p=some o/\o.cls=.type "tuple"/\o.dict=none) ∨
   (T="dict"/\((∃kvs,H p=some (.dK kvs))∨∃kvs,H p=some (.dT kvs)))∨(T="set"/\∃S n,H p=some (.set S n))
 |_=>False
theorem abW{pins:List (ae×Obj)}{σ:St}{H:Hp}{s:af}{T:String}{x:V}{v:aa}(I:Inv X pins σ H s)(r:RelV x v)(ty:tyV X.K T x H) :
  s.TypeIs v T/\∀a,v=.ref a->∃ob,s.heap.get? a=some ob/\ob.dict=none:=by
 cases x with
 |str z =>
  obtain⟨t,rfl⟩:=r;cases (show T="str" from ty);exact⟨typeIs_str s z t,fun _ e=>nomatch e⟩
 |int i =>
  obtain⟨t,rfl⟩:=r;cases (show T="int" from ty);exact⟨typeIs_int s i t,fun _ e=>nomatch e⟩
 |ref p =>
  cases r;rcases ty with ⟨rfl,xs,hq⟩|⟨rfl,o,hk,hc,hd⟩|⟨rfl,hk⟩|⟨rfl,S,n,hk⟩
  ·obtain⟨its,_,pl,_⟩:=I.list hq;refine⟨pl.isList.typeIs,fun a e=>?_⟩;cases e;obtain⟨o,n,e,c,hd,_⟩:=pl;exact⟨o,e,hd⟩
  ·refine⟨⟨o,I.Jl p o hk,hc⟩,fun a e=>?_⟩;cases e;exact⟨o,I.Jl _ o hk,hd⟩
  ·have z:∃o,s.heap.get? p=some o/\o.ExactDict:=by
    rcases hk with ⟨kvs,hk⟩|⟨kvs,hk⟩
    ·obtain⟨_,_,_,_,o,_,_,e,ex,_⟩:=I.hok p _ hk;exact⟨o,e,ex⟩
    ·obtain⟨_,_,_,_,o,_,_,e,ex,_⟩:=I.hok p _ hk;exact⟨o,e,ex⟩
   obtain⟨o,e,ex⟩:=z;refine⟨⟨o,e,ex.1⟩,fun a e2=>?_⟩;cases e2;exact⟨o,e,ex.2.1⟩
  ·obtain⟨o,_,_,_,e,ex,_⟩:=I.hok p _ hk;refine⟨⟨o,e,ex.1⟩,fun a e2=>?_⟩;cases e2;exact⟨o,e,ex.2.1⟩
 |_=>exact ik ty
noncomputable def tBM(K:ai)(T:String)(r:V->List V->Hp->VK->Prop)(to:TE)(t:TA):TE:=fun σ H Q=>to σ H fun x H1=>tyV K T x H1/\t σ H1 fun xs H2=>r x xs H2 Q
variable{o e:ah}{es:List ah}{to:TE}{t:TA}{name:Str}{apos cpos:Pos}{T id:String}{r:V->List V->Hp->VK->Prop}
theorem aaN(pa:PlainAttrs T) (slot:Slot T name id) (hty:typeOf (.builtin id)=pure (.type "method_descriptor")) (hm:MtR X id r) (ho:PE X o to) (ha:PA X (e::es) t)
  (hbase:mE o name X.env (aS o X.env)=aS o X.env:=by rfl)
  (hfew:((dt cpos (bg (e::es) X.env)).all (fun x=>!x.1) && (j5 cpos (j6 [] X.env)).all (fun x=>x.1.isSome)
   && decide ((e::es).length + ([]:List kX).length + (if ([]:List kX).isEmpty then 0 else 1) < 30))=true:=by rfl)
  (hline:(apos.endLine == cpos.line)=true:=by rfl) (hs:bg (e::es) X.env=(false,aS e X.env)::bg es X.env:=by rfl) (hplain:(dt cpos (bg es X.env)).any (·.1)=false:=by rfl) :
  PE X (.Call (.Attribute o name apos) (e::es) [] cpos) (tBM X.K T r to t):=by
 intro pins s σ H Q I h;refine tq hbase hfew hline rfl (iK (ho pins s σ H _ I h) fun v s1 fj=>?_);obtain⟨x,H1,I1,r1,ty,q1⟩:=fj;obtain⟨h1,h2⟩:=abW I1 r1 ty;refine⟨T,id,pa,slot,hty,h1,h2,?_⟩;have hA:=ha cpos pins s1 σ H1 _ I1 q1;rw[hs]at hA ⊢;refine tx (by show(false || (dt cpos (bg es X.env)).any (·.1))=false;rw[hplain] <;> rfl) (qh ?_);exact iK hA fun us s2 ⟨vs,H2,I2,r2,q2⟩=>hm pins s2 σ H2 x vs v us Q I2 r1 r2 q2
end
noncomputable def MtM(X:Cx)(id:String)(r:V->List V->Hp->VK->Prop):Prop :=
 ∀(pins:List (ae×Obj)) (s:af) (σ:St) (H:Hp) (x:V) (xs:List V) (v:aa) (us:List aa) (Q:VK),Inv X pins σ H s->RelV x v->Vals xs us->r x xs H Q ->
  ar (ax X.prog X.w) X.A (call (.builtin id) (v::us)) (EP X pins σ Q) X.xe s
theorem Vals.one:∀{x:V}{us:List aa},Vals [x] us->∃u,us=[u]/\RelV x u
 |_,_,.cons r .nil=>⟨_,rfl,r⟩
section
variable{X:Cx}{pins:List (ae×Obj)}{σ:St}{H:Hp}{s:af}{l b:ae}{xs ys zs:List V}
theorem Inv.ahp{its its':List aa}{n:Nat}{f:Array aa->Array aa}{t':Nat}(I:Inv X pins σ H s)(hH:H l=some (.lst xs))
  (e:s.heap.get? l=some { cls:=.type "list",data:=.seq its.toArray n }) (hf:f its.toArray=its'.toArray) (hv:Vals ys its') (hz:ys.length<=sizeLine) :
  Inv X pins σ (upd H l (.lst ys)) { s with heap:=s.heap.update l (dA f),toks:=t' }:=by
 have q:=PySem.IsL.update e f;rw[hf]at q;refine I.write (x:=l) (e:=l) (by rw[hH];exact trivial) (.inl rfl) (fun b' u hb hu=>(eC s.heap (dA f) (b_ hb)).trans hu) ⟨_,q⟩ ?_;exact⟨hz,its',_,hv,q⟩
theorem Inv.aeO{its:List aa}{t':Nat}(I:Inv X pins σ H s)(hv:Vals ys its)(hz:ys.length<=sizeLine) :
  Inv X pins σ (upd H s.heap.objs.size (.lst ys)) { s with heap:=s.heap.push { cls:=.type "list",data:=.seq its.toArray },toks:=t' } :=
 I.laid (fun _ _ q=>bS _ q) (bz _) ⟨hz,its,0,hv,cy _ rfl⟩
theorem Inv.fresh(I:Inv X pins σ H s):H s.heap.objs.size=none:=I.hok.fresh (bz _)
theorem Inv.ahq(I:Inv X pins σ H s)(hH:H l=some (.lst xs)):xs.length<=sizeLine/\∃(its:List aa) (n:Nat),Vals xs its/\xs.length=its.length/\s.heap.get? l=some { cls:=.type "list",data:=.seq its.toArray n }:=by obtain⟨z,its,n,r,e⟩:=I.hok l _ hH;exact⟨z,its,n,r,r.length,e⟩
end
section
variable{X:Cx}
noncomputable def Mj:V->List V->Hp->VK->Prop:=fun x vs H Q=>∃l xs y,x=.ref l/\vs=[y]/\H l=some (.lst xs)/\xs.length < sizeLine/\Q .non (upd H l (.lst (xs++[y])))
theorem uU:MtM X "list.append" Mj:=by intro pins s σ H x vs v us Q I rx rv h;obtain⟨l,xs,y,rfl,rfl,hH,hz,q⟩:=h;cases rx;obtain⟨u,rfl,ru⟩:=rv.one;obtain⟨z,its,n,r,hl,e⟩:=I.ahq hH;refine call_meets F.slot_list_append ⟨_,e,rfl⟩ F.entry_list_append (F.args_list_append_2 _ _) (PySem.list_append l its.toArray n u (by rw[cE];lia)) ⟨e,?_⟩;refine⟨.non,_,I.ahp (its':=its++[u]) hH e (by simp) (r.append (.cons ru .nil)) ?_,rfl,q⟩;rw[dE,tz];lia
end
section
variable{prog:aE}{w:az}{A:aI}{E:aa->af->Prop}{s:af}
end
section
variable{X:Cx}
end
end L2
namespace Att
open PySem PySem.W PySem.Calls PyProof.Rows
theorem wM{P:Params}{h:Heap}:∀(ns:List Int) (vs:List aa),WellAll P h vs (ns.map WData.int)->ox vs ns:=by
 intro ns
 induction ns with
 |nil =>
  intro vs w;rw[j4]at w;cases w;exact .nil
 |cons n ns ih =>
  intro vs w;rw[cb]at w;cases w with
  |cons a b =>
   cases a;exact .cons _ _ (ih _ b)
theorem PB{l:mI}{n:Nat}(hn:l.most=some n){P:Params}{h:Heap}{args:List WData}{vals:List aa}
  (hpre:l.row.toRowW.claim.pre args=true) (hwl:WellAll P h vals args) :
  ∃a vs ns,vals=[aa.ref a]/\args=[WData.list (ns.map WData.int)]/\h.get? a=some { cls:=.type "list",data:=.seq vs.toArray }/\ox vs ns/\ns.length<=n:=by
 have hsh:WShape.hasAll [] args [.list .int]=true:=(pre_splitW hpre).1;have hc:l.pre.holds [] { args:=args }=true:=(pre_splitW hpre).2;obtain⟨d,r,rfl,h1,h2⟩:=hasAllW_cons hsh;obtain rfl:=hasAllW_nil h2;obtain⟨xs,rfl,h3⟩:=hasW_list h1;obtain⟨ns,rfl⟩:=items_int h3;have hlen:ns.length<=n:=by
  unfold mI.pre at hc;have h4:(WTm.not (.lt (.lit (.int (n:Int))) (.len (.arg 0)))).holds [] { args:=[.list (ns.map .int)] }=true:=by have h4:=(holds_andW hc).1;rw[hn]at h4;exact h4
  have h5:=condW_of h4 (w_not (w_lt w_lit (w_len_list (w_arg rfl))));rw[cx]at h5;refine Nat.le_of_not_lt fun q=>?_;have q':(n:Int) < ((ns.length:Nat):Int):=by lia
  first
   | (rw[decide_eq_true q']at h5;exact absurd h5 (by decide))
   | (simp at h5;lia)
 cases hwl with
 |cons w1 w2 =>
  cases w2;cases w1 with
  |list ho hall=>exact⟨_,_,ns,rfl,rfl,ho,wM ns _ hall,hlen⟩
theorem PJ(l:mI)(args:List WData):l.row.toRowW.claim.post args (.bool true) args=true :=
 postW_of (r:=l.row.toRowW) (X:=(true == true))
  (show WShape.has [] (.bool true) .bool=true by first|rfl|decide|simp[WShape.has,WShape.arms,WShape.armsAll])
  (show(WTm.eq .res (.lit (.bool true))).value [] { args:=args,res:=some (.bool true),after:=args }=some (.bool (true == true)) from w_eq_bool (w_res rfl) w_lit) rfl
theorem Gf{l:mI}{n:Nat}{q:aE}{loose:List Str}{XP:(Str->Option aa)->Heap->Prop}{YP:az->Heap->Prop}{d:DefRec}
  (hn:l.most=some n) (hdf:d.params.defaults=[])
  (call:∀(w:az) (s₀ s₁:af) (mg mb:Str->Option aa) (fa:ae) (o:Obj) (pm cd doc:aa) (a:ae) (vs:List aa) (ns:List Int),
   Ground q loose [] XP w s₀ mg mb s₁.heap->YP w s₁.heap ->
   s₁.heap.get? fa=some o->o.data=.func (docDef d.name d.params d.body d.scope pm cd doc)->s₁.heap.CodeRec cd d.name->mg d.name=some (.ref fa) ->
   s₁.heap.get? a=some { cls:=.type "list",data:=.seq vs.toArray }->ox vs ns->ns.length<=n->s₁.gens=#[] ->
   fq (ax l.prog w) mM (.call (.ref fa) ⟨[.ref a],[]⟩) (fun r s'=>r=.ok (.ret (.bool true))/\OldK s₁.heap s'.heap/\s'.os=s₁.os/\kN s'.gens) s₁) :
  WalkO q loose XP YP l.row.toRowW d [] (fun f vs=>PySem.call f vs):=by
 intro w s₀ s₁ mg mb G Y fa o pm cd doc dV kV ho hd hcd hD hmg hg args vals as hpre hlay hrd hwl hlo;obtain rfl:dV=.none:=Dflts.none hD hdf;obtain rfl:kV=.none:=Dflts.noKw hD;obtain⟨a,vs,ns,rfl,rfl,hobj,hints,hlen⟩:=PB hn hpre hwl;refine enter_call (tJ (call w s₀ s₁ mg mb fa o pm cd doc a vs ns G Y ho (fd_plain hd) hcd hmg hobj hints hlen hg) fun r s' hq=>?_);obtain⟨rfl,h2,h3,h4⟩:=hq;exact⟨.inl ⟨.bool true,.bool true,[],rfl,fun _=>rfl,.bool true,PJ l _,fun _=>⟨tN.nil,fun _ hm=>(nomatch hm)⟩⟩,h2,h3,h4⟩
section
variable{prog:aE}{w:az}{A:aI}{E:aa->af->Prop}{s:af}{K:cS}
noncomputable def ahr(h:Heap)(L d:ae):List (ae×Obj):=(cz h.objs.size).filterMap fun a=>if a=L∨a=d then none else (h.get? a).map fun o=>(a,o)
end
end Att
namespace L2
open PySem PySem.Spec PyProof.Rows
theorem qY:∀{vs:List aa}{ns:List Int},ox vs ns->Vals (ns.map V.int) vs
 |_,_,.nil=>.nil
 |_,_,.cons n t h=>.cons ⟨t,rfl⟩ (qY h)
noncomputable abbrev KOf{K:ai}{h:Heap}(_:K.In h):ai:=K
noncomputable def dg(s:bj):mw:=match s with
 | .FunctionDef _ a _ _ _ _ _ _ _ _=>a
 |_=>{ posonlyargs:=[],args:=[],vararg:=none,kwonlyargs:=[],kw_defaults:=[],kwarg:=none,defaults:=[] }
noncomputable def cB(s:bj):List bj:=match s with
 | .FunctionDef _ _ b _ _ _ _ _ _ _=>b
 |_=>[]
noncomputable def aJ(s:bj):Scope:=match s with
 | .FunctionDef _ _ _ _ _ _ sc _ _ _=>sc
 |_=>{ kind:=.function,names:=[],isGenerator:=false,isCoroutine:=false }
structure Fun (K:ai)(x qual:Str)(st:bj)(f:ae)(fd:dq):Prop where
 ex:∃(oc:aa) (od:Option ae) (kV doc pm:aa) (an:Option ae) (cdv ct:aa) (osl:Array (Option aa)),
  fd=gf x qual (dg st) (cB st) (aJ st) .none kV doc pm an cdv ct/\K.lookup f=some ⟨oc,od,.func fd,osl⟩/\my K cdv qual=true
 kp:j0 K (.ref f)=true
section
variable{P:aE}{w:az}{K:ai}{mg:Str->Option aa}{base:Heap}
theorem Fun.binds{x qual:Str}{st:bj}{f:ae}{fd:dq}{ps:List Str}(F:Fun K x qual st f fd)
  (h:∀(kV doc pm:aa) (an:Option ae) (cdv ct:aa) (us:List aa),us.length=ps.length->bindArgs (gf x qual (dg st) (cB st) (aJ st) .none kV doc pm an cdv ct) ⟨us,[]⟩=pure (ps.zip us)):Binds K fd ps []:=by
 obtain⟨oc,od,kV,doc,pm,an,cdv,ct,osl,rfl,lk,hcd⟩:=F.ex;exact .all (h kV doc pm an cdv ct)
theorem RT{x qual:Str}{st:bj}{f:ae}{oc:aa}{od an:Option ae}{osl:Array (Option aa)}{kV doc pm cdv ct:aa}(l:K.lookup f=some ⟨oc,od,.func (gf x qual (dg st) (cB st) (aJ st) .none kV doc pm an cdv ct),osl⟩)
  (c:my K cdv qual=true) (k:j0 K (.ref f)=true):Fun K x qual st f (gf x qual (dg st) (cB st) (aJ st) .none kV doc pm an cdv ct):=⟨⟨oc,od,kV,doc,pm,an,cdv,ct,osl,rfl,l,c⟩,k⟩
end
theorem PK{n:Nat}(h:n<=1000):n < sizeLine:=qi h (by decide)
section
variable{X:Cx}
theorem pv(i:Nat){x:Str}{pos:Pos}(hN:X.N[i]?=some x:=by rfl)(hv:Ri X.env.scope x:=by first|exact Or.inl rfl|exact Or.inr (Or.inl rfl)|exact Or.inr (Or.inr rfl))(hd:uN x:=by decide)
  (hcd:Rq x:=by decide):PE X (.Name x pos) (FW i):=nW hN hv hd hcd
end
noncomputable def Same(H H':Hp):Prop:=∀b o,H b=some o->H' b=some o
theorem Same.refl(H:Hp):Same H H:=fun _ _ h=>h
theorem Same.trans{H H1 H2:Hp}(a:Same H H1)(b:Same H1 H2):Same H H2:=fun c o h=>b c o (a c o h)
theorem Same.free{H H':Hp}(e:Same H H'){l:ae}(h:H' l=Option.none):H l=Option.none:=by
 cases q:H l with
 |none=>rfl
 |some o =>
  rw[e l o q]at h;cases h
theorem Same.seq{K:ai}{H H':Hp}{a:ae}{xs:List V}(e:Same H H')(h:pU K H a xs):pU K H' a xs:=by
 rcases h with (h|⟨o,h⟩)|h
 ·exact .inl (.inl (e _ _ h))
 ·exact .inl (.inr ⟨o,e _ _ h⟩)
 ·exact .inr h
end L2
namespace Vl
open PySem PySem.Spec L2
inductive D where
 |non|bl (b:Bool)|int (i:Int)|str (x:Str)|tup (xs:List D)|lst (xs:List D)|su (c:Str) (n:Int)|sy (ks:LL) (ds:List D)|fn (x:Str)|obj (c:Str) (ns:List Str) (ds:List D)
noncomputable def wg(a C:ae)(dx:Option ae):Heap->Prop:=fun h=>∃o vs,h.get? a=some o/\o.cls=.ref C/\o.data=.fields vs/\∀d,dx=some d->o.dict=some d
noncomputable def RV(c:Str):Str:=if c="NoText" then "at" else "place"
noncomputable def RW(G:Hp)(c:Str)(dx:Option ae)(n:Int):Prop:=n=0∨∃d i,n=2 * i + 1/\dx=some d/\G d=some (.xd [(RV c,.int i)])
theorem RW.mono{G G':Hp}(e:Same G G'){c:Str}{dx:Option ae}{n:Int}(h:RW G c dx n):RW G' c dx n:=h.imp id fun⟨d,i,h1,h2,h3⟩=>⟨d,i,h1,h2,e _ _ h3⟩
noncomputable def UG(K:ai)(G:Hp):ae->List Int->Prop:=fun b ks=>jT K G b (ks.map V.int)
noncomputable def Ml(ks:List Int):Int:=reduceHash (cw.Tuple.tupleHashOf (ks.map hashInt))
noncomputable def jZ(U:ae->List Int->Prop)(a:ae)(kvs:List (List Int×V)):Heap->Prop:=fun h=>∃(o:Obj) (es:Array oy) (ep:Nat) (xs:List (List Int×ae×aa)),h.get? a=some o/\o.ExactDict/\o.data=.dict es ep/\(a == ij)=false /\
 es.toList=xs.map (fun x=>⟨Ml x.1,.ref x.2.1,x.2.2⟩)/\(xs.map (·.1)).Nodup/\Paired (fun(p:List Int×V) (q:List Int×ae×aa)=>p.1=q.1/\U q.2.1 q.1/\RelV p.2 q.2.2) kvs xs
noncomputable def wj(H:Hp)(d:ae)(U:ae->List Int->Prop)(bw:List (List Int×V)):Prop:=∃φ:Heap->Prop,H d=some (.ext φ)/\∀h,φ h->jZ U d bw h
theorem Mq{H:Hp}{d:ae}{U:ae->List Int->Prop}{bw:List (List Int×V)}(h:H d=some (.ext (jZ U d bw))):wj H d U bw:=⟨_,h,fun _ z=>z⟩
noncomputable def wk(G:Hp)(a:ae)(U:ae->List Int->Prop)(bw:List (List Int×V)):Prop:=∃o,G a=some (.ext fun h=>h.get? a=some o/\jZ U a bw h)
theorem wk.mono{G G':Hp}{a:ae}{U:ae->List Int->Prop}{bw:List (List Int×V)}(e:Same G G')(h:wk G a U bw):wk G' a U bw:=let ⟨o,q⟩:=h;⟨o,e _ _ q⟩
theorem wk.at{G:Hp}{a:ae}{U:ae->List Int->Prop}{bw:List (List Int×V)}(h:wk G a U bw):wj G a U bw:=let ⟨_,q⟩:=h;⟨_,q,fun _ z=>z.2⟩
mutual
noncomputable def Rep(K:ai)(G:Hp):D->V->Prop
 | .non,v=>v=.non
 | .bl b,v=>v=.bl b
 | .int i,v=>v=.int i
 | .str x,v=>v=.str x
 | .tup ds,v=>∃a vs,v=.ref a/\jT K G a vs/\bF K G ds vs
 | .lst ds,v=>∃a vs,v=.ref a/\pU K G a vs/\bF K G ds vs
 | .su c n,v=>∃a C dx,v=.ref a/\ip K bu c=some (some (.ref C))/\G a=some (.ext (wg a C dx))/\RW G c dx n
 | .sy ks ds,v=>∃a U bw,v=.ref a/\wk G a U bw/\(∀b js,U b js->UG K G b js)/\bw.map (·.1)=ks/\bF K G ds (bw.map (·.2))
 | .fn x,v=>∃a o fd,v=.ref a/\ip K bu x=some (some (.ref a))/\K.lookup a=some o/\o.data=.func fd
 | .obj c ns ds,v=>∃a C dx us,v=.ref a/\ip K bu c=some (some (.ref C))/\G a=some (.ins C dx (ns.zip us))/\G dx=some (.own a)/\us.length=ns.length/\bF K G ds us
noncomputable def bF(K:ai)(G:Hp):List D->List V->Prop
 | [],vs=>vs=[]
 |d::ds,vs=>∃v vs',vs=v::vs'/\Rep K G d v/\bF K G ds vs'
end
theorem Same.cV{K:ai}{H H':Hp}{a:ae}{xs:List V}(e:Same H H')(h:jT K H a xs):jT K H' a xs:=by
 rcases h with (h|⟨o,h⟩)|h
 ·exact .inl (.inl (e _ _ h))
 ·exact .inl (.inr ⟨o,e _ _ h⟩)
 ·exact .inr h
mutual
theorem Rep.mono{K:ai}{G G':Hp}(e:Same G G'):∀{d:D}{v:V},Rep K G d v->Rep K G' d v
 | .non,_,h=>by simp only[Rep]at h ⊢;exact h
 | .bl _,_,h=>by simp only[Rep]at h ⊢;exact h
 | .int _,_,h=>by simp only[Rep]at h ⊢;exact h
 | .str _,_,h=>by simp only[Rep]at h ⊢;exact h
 | .tup ds,_,h=>by simp only[Rep]at h ⊢;obtain⟨a,vs,e1,h1,h2⟩:=h;exact⟨a,vs,e1,Same.cV e h1,bF.mono e h2⟩
 | .lst ds,_,h=>by simp only[Rep]at h ⊢;obtain⟨a,vs,e1,h1,h2⟩:=h;exact⟨a,vs,e1,e.seq h1,bF.mono e h2⟩
 | .su c n,_,h=>by simp only[Rep]at h ⊢;obtain⟨a,C,dx,e1,h1,h2,h3⟩:=h;exact⟨a,C,dx,e1,h1,e _ _ h2,h3.mono e⟩
 | .fn x,_,h=>by simp only[Rep]at h ⊢;exact h
 | .obj c ns ds,_,h=>by simp only[Rep]at h ⊢;obtain⟨a,C,dx,us,e1,h1,h2,h3,h4,h5⟩:=h;exact⟨a,C,dx,us,e1,h1,e _ _ h2,e _ _ h3,h4,bF.mono e h5⟩
 | .sy ks ds,_,h=>by simp only[Rep]at h ⊢;obtain⟨a,U,bw,e1,h1,h2,h3,h4⟩:=h;exact⟨a,U,bw,e1,h1.mono e,fun b js q=>Same.cV e (h2 b js q),h3,bF.mono e h4⟩
theorem bF.mono{K:ai}{G G':Hp}(e:Same G G'):∀{ds:List D}{vs:List V},bF K G ds vs->bF K G' ds vs
 | [],_,h=>by simp only[bF]at h ⊢;exact h
 |d::ds,_,h=>by simp only[bF]at h ⊢;obtain⟨v,vs',e1,h1,h2⟩:=h;exact⟨v,vs',e1,Rep.mono e h1,bF.mono e h2⟩
end
section
variable{K:ai}{G:Hp}
theorem bA{i:Int}{v:V}:Rep K G (.int i) v↔v=.int i:=by simp only[Rep]
theorem cJ{i:Bool}{v:V}:Rep K G (.bl i) v↔v=.bl i:=by simp only[Rep]
theorem lJ{v:V}:Rep K G .non v↔v=.non:=by simp only[Rep]
theorem pB{x:Str}{v:V}:Rep K G (.str x) v↔v=.str x:=by simp only[Rep]
theorem bR{ds:List D}{v:V}:Rep K G (.tup ds) v↔∃a vs,v=.ref a/\jT K G a vs/\bF K G ds vs:=by simp only[Rep]
theorem bJ{ds:List D}{v:V}:Rep K G (.lst ds) v↔∃a vs,v=.ref a/\pU K G a vs/\bF K G ds vs:=by simp only[Rep]
theorem qZ{c:Str}{n:Int}{v:V}:Rep K G (.su c n) v↔∃a C dx,v=.ref a/\ip K bu c=some (some (.ref C))/\G a=some (.ext (wg a C dx))/\RW G c dx n:=by simp only[Rep]
theorem Jw{x:Str}{v:V}:Rep K G (.fn x) v↔∃a o fd,v=.ref a/\ip K bu x=some (some (.ref a))/\K.lookup a=some o/\o.data=.func fd:=by simp only[Rep]
theorem CT{c:Str}{ns:List Str}{ds:List D}{v:V}:Rep K G (.obj c ns ds) v↔∃a C dx us,v=.ref a/\ip K bu c=some (some (.ref C))/\G a=some (.ins C dx (ns.zip us))/\G dx=some (.own a)/\us.length=ns.length/\bF K G ds us:=by simp only[Rep]
theorem rm{ks:LL}{ds:List D}{v:V}:Rep K G (.sy ks ds) v↔∃a U bw,v=.ref a/\wk G a U bw/\(∀b js,U b js->UG K G b js)/\bw.map (·.1)=ks/\bF K G ds (bw.map (·.2)):=by simp only[Rep]
theorem bf{vs:List V}:bF K G [] vs↔vs=[]:=by simp only[bF]
theorem aO{d:D}{ds:List D}{vs:List V}:bF K G (d::ds) vs↔∃v vs',vs=v::vs'/\Rep K G d v/\bF K G ds vs':=by simp only[bF]
theorem bF.length:∀{ds:List D}{vs:List V},bF K G ds vs->ds.length=vs.length
 | [],_,h=>by rw[bf.mp h];rfl
 |d::ds,_,h=>by obtain⟨v,vs',rfl,_,h2⟩:=aO.mp h;simp[bF.length h2]
theorem bF.get:∀{ds:List D}{vs:List V}{i:Nat}{d:D},bF K G ds vs->ds[i]?=some d->∃v,vs[i]?=some v/\Rep K G d v
 | [],_,_,_,h,e=>by simp at e
 |d::ds,_,i,x,h,e=>by
  obtain⟨v,vs',rfl,h1,h2⟩:=aO.mp h;cases i with
  |zero=>simp at e;subst e;exact⟨v,by simp,h1⟩
  |succ i=>obtain⟨u,q1,q2⟩:=bF.get (i:=i) h2 (by simpa using e);exact⟨u,by simpa using q1,q2⟩
theorem bF.get':∀{ds:List D}{vs:List V}{i:Nat}{v:V},bF K G ds vs->vs[i]?=some v->∃d,ds[i]?=some d/\Rep K G d v
 | [],_,_,_,h,e=>by rw[bf.mp h]at e;simp at e
 |d::ds,_,i,x,h,e=>by
  obtain⟨v,vs',rfl,h1,h2⟩:=aO.mp h;cases i with
  |zero=>simp at e;subst e;exact⟨d,by simp,h1⟩
  |succ i=>obtain⟨u,q1,q2⟩:=bF.get' (i:=i) h2 (by simpa using e);exact⟨u,by simpa using q1,q2⟩
theorem bF.append:∀{ds es:List D}{vs us:List V},bF K G ds vs->bF K G es us->bF K G (ds++es) (vs++us)
 | [],_,_,_,h,h'=>by rw[bf.mp h];exact h'
 |d::ds,_,_,_,h,h'=>by obtain⟨v,vs',rfl,h1,h2⟩:=aO.mp h;exact aO.mpr ⟨v,_,rfl,h1,bF.append h2 h'⟩
theorem bF.one{d:D}{v:V}(h:Rep K G d v):bF K G [d] [v]:=aO.mpr ⟨v,[],rfl,h,bf.mpr rfl⟩
theorem bF.drop:∀{ds:List D}{vs:List V}(n:Nat),bF K G ds vs->bF K G (ds.drop n) (vs.drop n)
 |ds,vs,0,h=>by simpa using h
 | [],_,n + 1,h=>by rw[bf.mp h];simpa using bf.mpr rfl
 |d::ds,_,n + 1,h=>by obtain⟨v,vs',rfl,h1,h2⟩:=aO.mp h;simpa using bF.drop n h2
theorem bF.take:∀{ds:List D}{vs:List V}(n:Nat),bF K G ds vs->bF K G (ds.take n) (vs.take n)
 |ds,vs,0,h=>by simpa using bf.mpr rfl
 | [],_,n + 1,h=>by rw[bf.mp h];simpa using bf.mpr rfl
 |d::ds,_,n + 1,h=>by obtain⟨v,vs',rfl,h1,h2⟩:=aO.mp h;simpa using aO.mpr ⟨v,_,rfl,h1,bF.take n h2⟩
theorem uV(ns:List Int):bF K G (ns.map D.int) (ns.map V.int):=by
 induction ns with
 |nil=>exact bf.mpr rfl
 |cons n ns ih=>exact aO.mpr ⟨_,_,rfl,bA.mpr rfl,ih⟩
end
inductive Rs (α:Type) where
 |ok (a:α)|ex (c:Str) (n:Int)|no
noncomputable def Rs.bind{α β:Type}:Rs α->(α->Rs β)->Rs β
 | .ok a,k=>k a
 | .ex c n,_=>.ex c n
 | .no,_=>.no
inductive Sl where
 |no|fz (d:D)|ow (ds:List D)|od (kvs:List (List Int×D))|op (ds:List D)
noncomputable def Sl.own:Sl->Bool
 | .ow _=>true
 | .od _=>true
 | .op _=>true
 |_=>false
inductive dD (K:ai) (G:Hp):List (List Int×D)->List (List Int×V)->Prop
 |nil:dD K G [] []
 |cons {k:List Int}{d:D}{v:V}{kvs:List (List Int×D)}{bw:List (List Int×V)}:Rep K G d v->dD K G kvs bw->dD K G ((k,d)::kvs) ((k,v)::bw)
theorem dD.mono{K:ai}{G G':Hp}(e:Same G G'){kvs:List (List Int×D)}{bw:List (List Int×V)}(h:dD K G kvs bw):dD K G' kvs bw:=by
 induction h with
 |nil=>exact .nil
 |cons r _ ih=>exact .cons (r.mono e) ih
noncomputable def sE(K:ai)(G:Hp)(a:ae):Sl->HO->Prop
 | .ow ds,o=>∃vs,o=.lst vs/\bF K G ds vs
 | .op ds,o=>∃vs,o=.lst vs/\bF K G ds vs
 | .od kvs,o=>∃U bw,o=.ext (jZ U a bw)/\(∀b ks,U b ks->UG K G b ks)/\dD K G kvs bw
 |_,_=>False
theorem sE.mono{K:ai}{G G':Hp}(e:Same G G'){a:ae}{z:Sl}{o:HO}(h:sE K G a z o):sE K G' a z o:=by
 cases z with
 |ow ds=>obtain⟨vs,h1,h2⟩:=h;exact⟨vs,h1,h2.mono e⟩
 |od kvs=>obtain⟨U,bw,h1,h2,h3⟩:=h;exact⟨U,bw,h1,fun b ks q=>Same.cV e (h2 b ks q),h3.mono e⟩
 |op ds=>obtain⟨vs,h1,h2⟩:=h;exact⟨vs,h1,h2.mono e⟩
 |_=>exact h.elim
theorem sE.tup{K:ai}{G:Hp}{a:ae}{z:Sl}{xs:List V}(h:sE K G a z (.tup xs)):False:=by
 cases z with
 |ow ds=>obtain⟨vs,h1,h2⟩:=h;cases h1
 |od kvs=>obtain⟨U,bw,h1,h2,h3⟩:=h;cases h1
 |op ds=>obtain⟨vs,h1,h2⟩:=h;cases h1
 |_=>exact h
noncomputable abbrev aH:=List Sl
structure Bs where
 g:Hp
 h:Hp
 p:ae
noncomputable abbrev Wi:=Str->Int->St->Hp->Prop
noncomputable def Mr(fd:dq):Bool:=match fd.body with
 | .stmts ss=>(match ss.getLast? with
  |some (.Return (some (.Call _ _ (k::_) _)) _)=>(match k.value with|.Lambda _ _ _ _=>true|_=>false)
  |_=>false)
 |_=>false
noncomputable def RX(K:ai):List (ae×Str):=K.filterMap fun p=>match p.2.data with
 | .func fd=>if Mr fd then (match fd.code with
  | .ref c=>(match K.lookup c with
   |some oc=>(match oc.data with|.fields vs=>(match (vs[11]?:Option aa) with|some (.ref P)=>some (P,fd.qualname++(".<locals>.<lambda>":Str))|_=>none)|_=>none)
   |none=>none)
  |_=>none) else none
 |_=>none
noncomputable def Yu(K:ai)(H:Hp):Prop:=∀x∈RX K,H x.1=some (.tab x.2)
theorem Yu.same{K:ai}{H H':Hp}(h:Yu K H)(e:Same H H'):Yu K H':=fun x m=>e _ _ (h x m)
theorem Yu.upd{K:ai}{H:Hp}{a:ae}{o u:HO}(h:Yu K H)(e:H a=some u)(n:∀q,u≠.tab q):Yu K (upd H a o):=fun x m=>by have:=h x m;rw[aK (fun z=>by subst z;rw[e]at this;exact n _ (dk this))];exact this
theorem sE.tab{K:ai}{G:Hp}{a:ae}{z:Sl}{o:HO}(h:sE K G a z o):∀q,o≠.tab q:=fun q e=>by
 subst e;cases z with
 |ow ds=>obtain⟨vs,h1,h2⟩:=h;cases h1
 |od kvs=>obtain⟨U,bw,h1,h2,h3⟩:=h;cases h1
 |op ds=>obtain⟨vs,h1,h2⟩:=h;cases h1
 |_=>exact h
structure Ext (G H G' H':Hp):Prop where
 gg:Same G G'
 hh:Same H H'
 gh:Same G' H'
 tp:∀a xs,H' a=some (.tup xs)->G' a=some (.tup xs)
 nw:∀b o,H b=some o->G b=none->G' b=none
theorem Ext.trans{G H G1 H1 G2 H2:Hp}(a:Ext G H G1 H1)(b:Ext G1 H1 G2 H2):Ext G H G2 H2 :=
 ⟨a.gg.trans b.gg,a.hh.trans b.hh,b.gh,b.tp,fun c o h n=>b.nw c o (a.hh c o h) (a.nw c o h n)⟩
theorem Ext.refl{G H:Hp}(gh:Same G H)(tp:∀a xs,H a=some (.tup xs)->G a=some (.tup xs)):Ext G H G H:=⟨.refl _,.refl _,gh,tp,fun _ _ _ n=>n⟩
structure SR (K:ai)(B:Bs)(σ:St)(H:Hp)(ρ:aH)(G:Hp):Prop where
 en:Ext B.1 B.2 G H
 len:ρ.length=σ.length
 fz:∀(i:Nat) (d:D),ρ[i]?=some (.fz d)->∃v,σ[i]?=some (some v)/\Rep K G d v
 own:∀(i:Nat) (z:Sl),ρ[i]?=some z->z.own=true->∃a o,σ[i]?=some (some (.ref a))/\H a=some o/\G a=none/\B.2 a=none/\sE K G a z o
 ap:∀(i j:Nat) (z z':Sl) (a:ae),ρ[i]?=some z->z.own=true->ρ[j]?=some z'->z'.own=true->σ[i]?=some (some (.ref a))->σ[j]?=some (some (.ref a))->i=j
 tie:∀(i:Nat) (ds:List D) (a:ae),ρ[i]?=some (.op ds)->σ[i]?=some (some (.ref a))->a=B.3
 co:Yu K H
structure Ex0 (K:ai)(G H:Hp):Prop extends Ext G H G H where
 co:Yu K H
section
variable{K:ai}{B:Bs}{σ:St}{H H' G G':Hp}{ρ:aH}
theorem SR.uW(h:SR K B σ H ρ G):Ext G H G H:=.refl h.en.gh h.en.tp
theorem SR.ext(h:SR K B σ H ρ G)(e:Ext G H G' H'):SR K B σ H' ρ G' where
 en:=h.en.trans e
 len:=h.len
 fz:=fun i d q=>let ⟨v,h1,h2⟩:=h.fz i d q;⟨v,h1,h2.mono e.gg⟩
 own:=fun i z q w=>let ⟨a,o,h1,h2,h3,h4,h5⟩:=h.own i z q w;⟨a,o,h1,e.hh _ _ h2,e.nw _ _ h2 h3,h4,h5.mono e.gg⟩
 ap:=h.ap
 tie:=h.tie
 co:=h.co.same e.hh
theorem SR.ex0(h:SR K B σ H ρ G):Ex0 K G H:=⟨h.uW,h.co⟩
theorem SR.set(h:SR K B σ H ρ G){i:Nat}{d:D}{v:V}(r:Rep K G d v):SR K B (σ.set i (some v)) H (ρ.set i (.fz d)) G where
 en:=h.en
 len:=by simp[h.len]
 fz:=fun j d' q=>by
  by_cases e:i=j
  ·subst e;have hl:i < ρ.length:=by have:=(df.mp q).1;simpa using this
   rw[di hl]at q;cases q;exact⟨v,di (by rw[<- h.len];exact hl),r⟩
  ·rw[cv e]at q;rw[cv e];exact h.fz j d' q
 own:=fun j z q w=>by
  by_cases e:i=j
  ·subst e;have hl:i < ρ.length:=by have:=(df.mp q).1;simpa using this
   rw[di hl]at q;cases q;cases w
  ·rw[cv e]at q;rw[cv e];exact h.own j z q w
 ap:=fun j k z z' a q1 w1 q2 w2 q3 q4=>by
  have ne:∀(l:Nat) (z:Sl),(ρ.set i (.fz d))[l]?=some z->z.own=true->i≠l:=fun l z q w e=>by
   subst e;have hl:i < ρ.length:=by have:=(df.mp q).1;simpa using this
   rw[di hl]at q;cases q;cases w
  have n1:=ne j z q1 w1;have n2:=ne k z' q2 w2;rw[cv n1]at q1 q3;rw[cv n2]at q2 q4;exact h.ap j k z z' a q1 w1 q2 w2 q3 q4
 tie:=fun j ds a q1 q2=>by
  have e:i≠j:=fun e=>by
   subst e;have hl:i < ρ.length:=by have:=(df.mp q1).1;simpa using this
   rw[di hl]at q1;cases q1
  rw[cv e]at q1 q2;exact h.tie j ds a q1 q2
 co:=h.co
theorem SR.ow(h:SR K B σ H ρ G)(i:Nat)(ds:List D)(q:ρ[i]?=some (.ow ds)):∃a vs,σ[i]?=some (some (.ref a))/\H a=some (.lst vs)/\G a=none/\B.2 a=none/\bF K G ds vs:=by obtain⟨a,o,h1,h2,h3,h4,vs,rfl,h5⟩:=h.own i _ q rfl;exact⟨a,vs,h1,h2,h3,h4,h5⟩
theorem tY(gh:Same G H)(tp:∀a xs,H a=some (.tup xs)->G a=some (.tup xs)){p:ae}{xs:List V}(hp:H p=none):Ext G H (upd G p (.tup xs)) (upd H p (.tup xs)) where
 gg:=fun b o e=>by rw[aK (aP (gh _ _ e) hp)];exact e
 hh:=fun b o e=>by rw[aK (aP e hp)];exact e
 gh:=fun b o e=>by
  by_cases q:b=p
  ·subst q;rw[aW]at e ⊢;exact e
  ·rw[aK q]at e ⊢;exact gh _ _ e
 tp:=fun b ys e=>by
  by_cases q:b=p
  ·subst q;rw[aW]at e ⊢;exact e
  ·rw[aK q]at e ⊢;exact tp _ _ e
 nw:=fun b o e n=>by rw[aK (aP e hp)];exact n
theorem pC(gh:Same G H)(tp:∀a xs,H a=some (.tup xs)->G a=some (.tup xs)){p:ae}{xs:List V}(hp:H p=none):Ext G H (upd G p (.lst xs)) (upd H p (.lst xs)) where
 gg:=fun b o e=>by rw[aK (aP (gh _ _ e) hp)];exact e
 hh:=fun b o e=>by rw[aK (aP e hp)];exact e
 gh:=fun b o e=>by
  by_cases q:b=p
  ·subst q;rw[aW]at e ⊢;exact e
  ·rw[aK q]at e ⊢;exact gh _ _ e
 tp:=fun b ys e=>by
  by_cases q:b=p
  ·subst q;rw[aW]at e;cases e
  ·rw[aK q]at e ⊢;exact tp _ _ e
 nw:=fun b o e n=>by rw[aK (aP e hp)];exact n
theorem CV(gh:Same G H)(tp:∀a xs,H a=some (.tup xs)->G a=some (.tup xs)){p:ae}{o:HO}(ho:∀xs,o≠.tup xs)(hp:H p=none):Ext G H G (upd H p o) where
 gg:=.refl _
 hh:=fun b o e=>by rw[aK (aP e hp)];exact e
 gh:=fun b o e=>by rw[aK (aP (gh _ _ e) hp)];exact gh _ _ e
 tp:=fun b ys e=>by
  by_cases q:b=p
  ·subst q;rw[aW]at e;cases e;exact absurd rfl (ho ys)
  ·rw[aK q]at e;exact tp _ _ e
 nw:=fun b o e n=>n
theorem CW(gh:Same G H)(tp:∀a xs,H a=some (.tup xs)->G a=some (.tup xs)){p:ae}{xs:List V}(hp:H p=none):Ext G H G (upd H p (.lst xs)) where
 gg:=.refl _
 hh:=fun b o e=>by rw[aK (aP e hp)];exact e
 gh:=fun b o e=>by rw[aK (aP (gh _ _ e) hp)];exact gh _ _ e
 tp:=fun b ys e=>by
  by_cases q:b=p
  ·subst q;rw[aW]at e;cases e
  ·rw[aK q]at e;exact tp _ _ e
 nw:=fun b o e n=>n
end
noncomputable def Post(K:ai)(W:Wi)(σ:St)(G H:Hp)(r:Rs D)(Q:VK):Prop :=
 match r with
 | .ok d=>∀v H' G',Ext G H G' H'->Rep K G' d v->Q v H'
 | .ex c n=>∀H' G',Ext G H G' H'->W c n σ H'
 | .no=>False
noncomputable def tF(K:ai)(B:Bs)(W:Wi)(f:aH->Rs D):TE:=fun σ H Q=>∃ρ G,SR K B σ H ρ G/\Post K W σ G H (f ρ) Q
noncomputable def SE(X:Cx)(B:Bs)(W:Wi)(e:ah)(f:aH->Rs D):Prop:=PE X e (tF X.K B W f)
theorem PE.imp{X:Cx}{e:ah}{t t':TE}(h:PE X e t)(i:∀σ H Q,t' σ H Q->t σ H Q):PE X e t':=fun pins s σ H Q I q=>h pins s σ H Q I (i σ H Q q)
theorem PT.imp{X:Cx}{e:ah}{t t':TT}(h:PT X e t)(i:∀σ H Q,t' σ H Q->t σ H Q):PT X e t':=fun pins s σ H Q I q=>h pins s σ H Q I (i σ H Q q)
theorem PA.imp{X:Cx}{e:List ah}{t t':TA}(h:PA X e t)(i:∀σ H Q,t' σ H Q->t σ H Q):PA X e t':=fun pos pins s σ H Q I q=>h pos pins s σ H Q I (i σ H Q q)
theorem PS.imp{X:Cx}{e:bj}{t t':TS}(h:PS X e t)(i:∀De σ H,t' De σ H->t De σ H):PS X e t':=fun pins s σ H De I q=>h pins s σ H De I (i De σ H q)
theorem FJ.imp{X:Cx}{e:List bj}{t t':TS}(h:FJ X e t)(i:∀De σ H,t' De σ H->t De σ H):FJ X e t':=fun pins s σ H De I q=>h pins s σ H De I (i De σ H q)
section
variable{X:Cx}{K:ai}{B:Bs}{W:Wi}{σ:St}{G H:Hp}{ρ:aH}{Q Q':VK}
theorem Post.mono{r:Rs D}(h:Post K W σ G H r Q)(i:∀v H',Q v H'->Q' v H'):Post K W σ G H r Q':=by
 cases r with
 |ok d=>exact fun v H' G' e r=>i _ _ (h v H' G' e r)
 |ex c n=>exact h
 |no=>exact h
theorem Post.ext{r:Rs D}{G' H':Hp}(e:Ext G H G' H')(h:Post K W σ G H r Q):Post K W σ G' H' r Q:=by
 cases r with
 |ok d=>exact fun v CZ G'' e' r=>h v CZ G'' (e.trans e') r
 |ex c n=>exact fun CZ G'' e'=>h CZ G'' (e.trans e')
 |no=>exact h
theorem Post.bind{r:Rs D}{k:D->Rs D}(h:Post K W σ G H (r.bind k) Q) :
  Post K W σ G H r fun v H1=>∃G1 d,Ext G H G1 H1/\Rep K G1 d v/\Post K W σ G1 H1 (k d) Q:=by
 cases r with
 |ok d=>exact fun v H' G' e r=>⟨G',d,e,r,Post.ext e h⟩
 |ex c n=>exact h
 |no=>exact h
theorem Post.ok{d:D}{v:V}(s:SR K B σ H ρ G)(h:Post K W σ G H (.ok d) Q)(r:Rep K G d v):Q v H:=h v H G s.uW r
theorem mZ{f:aH->Rs D}{k:aH->D->Rs D}(h:tF K B W (fun ρ=>(f ρ).bind (k ρ)) σ H Q) :
  tF K B W f σ H fun v H1=>∃ρ G1 d,SR K B σ H1 ρ G1/\Rep K G1 d v/\Post K W σ G1 H1 (k ρ d) Q:=by
 obtain⟨ρ,G,s,p⟩:=h;exact⟨ρ,G,s,p.bind.mono fun v H1 ⟨G1,d,e,r,q⟩=>⟨ρ,G1,d,s.ext e,r,q⟩⟩
theorem RZ{f:aH->Rs D}{k:D->D->Rs D}{v:V}(h:∃ρ G1 d,SR K B σ H ρ G1/\Rep K G1 d v/\Post K W σ G1 H ((f ρ).bind (k d)) Q) :
  tF K B W f σ H fun u H1=>∃ρ G1 d d',SR K B σ H1 ρ G1/\Rep K G1 d v/\Rep K G1 d' u/\Post K W σ G1 H1 (k d d') Q:=by
 obtain⟨ρ,G,d,s,r,p⟩:=h;exact⟨ρ,G,s,p.bind.mono fun u H1 ⟨G1,d',e,r',q⟩=>⟨ρ,G1,d,d',s.ext e,r.mono e.gg,r',q⟩⟩
noncomputable def aD(i:Nat):aH->Rs D:=fun ρ=>match ρ[i]? with|some (.fz d)=>.ok d|_=>.no
noncomputable def fC(d:D):aH->Rs D:=fun _=>.ok d
theorem abY{e:ah}{i:Nat}(h:PE X e (FW i)):SE X B W e (aD i):=PE.imp h fun σ H Q ⟨ρ,G,s,p⟩=>by
 unfold aD at p;cases q:ρ[i]? with
 |none=>rw[q]at p;exact p.elim
 |some x =>
  rw[q]at p;cases x with
  |no=>exact p.elim
  |ow _=>exact p.elim
  |od _=>exact p.elim
  |op _=>exact p.elim
  |fz d =>
   obtain⟨v,h1,h2⟩:=s.fz i d q;exact⟨v,h1,Post.ok s p h2⟩
theorem sv(i:Nat){x:Str}{pos:Pos}(hN:X.N[i]?=some x:=by rfl)(hv:Ri X.env.scope x:=by first|exact Or.inl rfl|exact Or.inr (Or.inl rfl)|exact Or.inr (Or.inr rfl))(hd:uN x:=by decide)
  (hcd:Rq x:=by decide):SE X B W (.Name x pos) (aD i):=abY (nW hN hv hd hcd)
theorem Yv{e:ah}{v:V}{d:D}(h:PE X e (tC v))(r:∀G,Rep X.K G d v):SE X B W e (fC d):=PE.imp h fun σ H Q ⟨ρ,G,s,p⟩=>Post.ok s p (r G)
theorem aG{i:Int}{j pos}:SE X B W (.Constant (.int i) j pos) (fC (.int i)):=Yv abx fun _=>bA.mpr rfl
theorem ni{b:Bool}{j pos}:SE X B W (.Constant (.bool b) j pos) (fC (.bl b)):=Yv aek fun _=>cJ.mpr rfl
theorem Jx{j pos}:SE X B W (.Constant .none j pos) (fC .non):=Yv aby fun _=>lJ.mpr rfl
theorem yD{x j pos}:SE X B W (.Constant (.str x) j pos) (fC (.str x)):=Yv abz fun _=>pB.mpr rfl
noncomputable def bH(g:D->D->Rs D)(fa fb:aH->Rs D):aH->Rs D:=fun ρ=>(fa ρ).bind fun x=>(fb ρ).bind fun y=>g x y
noncomputable def Ms(K:ai)(r:R2)(g:D->D->Rs D):Prop :=
 ∀(B:Bs) (W:Wi) (σ:St) (ρ:aH) (G H:Hp) (x y:D) (v u:V) (Q:VK),SR K B σ H ρ G->Rep K G x v->Rep K G y u->Post K W σ G H (g x y) Q->r v u H Q
theorem yE{r:R2}{g:D->D->Rs D}{fa fb:aH->Rs D}(ho:Ms K r g)(h:tF K B W (bH g fa fb) σ H Q):tOp r (tF K B W fa) (tF K B W fb) σ H Q:=by obtain⟨ρ,G,s,p⟩:=mZ (k:=fun ρ x=>(fb ρ).bind fun y=>g x y) h;refine⟨ρ,G,s,p.mono fun v H1 h1=>?_⟩;obtain⟨ρ,G,s,p⟩:=RZ (k:=g) h1;exact⟨ρ,G,s,p.mono fun u H2 ⟨ρ2,G2,d,d',s2,r1,r2,p2⟩=>ho B W σ ρ2 G2 H2 d d' v u Q s2 r1 r2 p2⟩
theorem Bg{a b:ah}{op:Operator}{pos:Pos}{r:R2}{g:D->D->Rs D}{fa fb:aH->Rs D}(ho:tR X (i0 op) r)(hg:Ms X.K r g)(ha:SE X B W a fa)(hb:SE X B W b fb):SE X B W (.BinOp a op b pos) (bH g fa fb) :=
 PE.imp (aeB ho ha hb) fun _ _ _ h=>yE hg h
noncomputable def gI(C:Int->Int->Prop)[∀i j,Decidable (C i j)](g:Int->Int->D):D->D->Rs D
 | .int i,.int j=>if C i j then .ok (g i j) else .no
 |_,_=>.no
theorem Mt{C:Int->Int->Prop}[∀i j,Decidable (C i j)]{gv:Int->Int->V}{g:Int->Int->D}(hg:∀G i j,Rep K G (g i j) (gv i j)):Ms K (rI C gv) (gI C g):=by
 intro B W σ ρ G H x y v u Q s rx ry p;cases x <;> first|exact p.elim|skip
 rename_i i;cases y <;> first|exact p.elim|skip
 rename_i j;simp only[gI]at p;by_cases c:C i j
 ·rw[if_pos c]at p;exact⟨i,j,bA.mp rx,bA.mp ry,c,Post.ok s p (hg G i j)⟩
 ·rw[if_neg c]at p;exact p.elim
noncomputable def gI0(g:Int->Int->D):D->D->Rs D
 | .int i,.int j=>.ok (g i j)
 |_,_=>.no
theorem Dc{gv:Int->Int->V}{g:Int->Int->D}(hg:∀G i j,Rep K G (g i j) (gv i j)):Ms K (Yb gv) (gI0 g):=by
 intro B W σ ρ G H x y v u Q s rx ry p;cases x <;> first|exact p.elim|skip
 rename_i i;cases y <;> first|exact p.elim|skip
 rename_i j;exact⟨i,j,bA.mp rx,bA.mp ry,Post.ok s p (hg G i j)⟩
end
mutual
noncomputable def qe:D->D->Bool
 | .tup a,.tup b=>yF a b
 | .lst a,.lst b=>yF a b
 | .non,.non=>true
 | .bl a,.bl b=>a == b
 | .bl a,.int b=>(if a then 1 else 0) == b
 | .int a,.bl b=>a == (if b then 1 else 0)
 | .int a,.int b=>a == b
 | .str a,.str b=>a == b
 | .su a b,.su c d=>a == c && b == d
 | .sy _ _,.sy _ _=>true
 | .fn a,.fn b=>a == b
 | .obj _ _ _,.obj _ _ _=>true
 |_,_=>false
noncomputable def yF:List D->List D->Bool
 | [],[]=>true
 |a::as,b::bs=>qe a b && yF as bs
 |_,_=>false
end
mutual
noncomputable def jl:D->Nat
 | .tup a=>jm a + 1
 | .lst a=>jm a + 1
 | .su _ _=>bX
 | .sy _ _=>bX
 | .fn _=>bX
 | .obj _ _ _=>bX
 |_=>0
noncomputable def jm:List D->Nat
 | []=>0
 |a::as=>Nat.max (jl a) (jm as)
end
mutual
theorem yG:∀d:D,qe d d=true
 | .non=>by simp[qe]
 | .bl _=>by simp[qe]
 | .int _=>by simp[qe]
 | .str _=>by simp[qe]
 | .tup a=>by simp[qe,uX a]
 | .lst a=>by simp[qe,uX a]
 | .su _ _=>by simp[qe]
 | .sy _ _=>by simp[qe]
 | .fn _=>by simp[qe]
 | .obj _ _ _=>by simp[qe]
theorem uX:∀d:List D,yF d d=true
 | []=>by simp[yF]
 |a::as=>by simp[yF,yG a,uX as]
end
theorem dR:∀(a b:List D),((cz (min a.length b.length)).all (fun j=>qe (a.getD j .non) (b.getD j .non)) && a.length == b.length)=yF a b
 | [],[]=>by simp[yF]
 | [],b::bs=>by simp[yF]
 |a::as,[]=>by simp[yF]
 |a::as,b::bs=>by have ih:=dR as bs;rw[yF,<- ih];rw[show min (a::as).length (b::bs).length=min as.length bs.length + 1 by simp];rw[oz,tP,t9];simp[qk,Bool.and_assoc]
theorem Dd{d:D}:∀{ds:List D},d∈ds->jl d<=jm ds
 | [],h=>by cases h
 |x::xs,h=>by
  rw[jm];rcases bP.mp h with rfl|h
  ·exact Nat.le_max_left _ _
  ·exact et (Dd h) (Nat.le_max_right _ _)
section
variable{X:Cx}{pins:List (ae×Obj)}{σ:St}{H:Hp}{s:af}
theorem Gg(I:Inv X pins σ H s){a:ae}{xs ys:List V}(h:pU X.K H a xs)(h':jT X.K H a ys):False:=by obtain⟨_,_,⟨o,n,e,c,_,_⟩,_⟩:=I.list h;obtain⟨_,_,⟨o',e',c',_⟩,_⟩:=I.tuple h';rw[e]at e';cases e';rw[c]at c';exact absurd c' (by decide)
theorem Gh(I:Inv X pins σ H s){a:ae}{xs:List V}{φ:Heap->Prop}(h:jT X.K H a xs)(h':H a=some (.ext φ)):False:=by
 rcases h with (h|⟨o,h⟩)|⟨o,its,n,hk,_⟩
 ·rw[h']at h;cases h
 ·rw[h']at h;cases h
 ·have:=(I.bs a o (I.mod.Rt a o hk)).2;rw[h']at this;cases this
theorem Gi(I:Inv X pins σ H s){a:ae}{xs:List V}{φ:Heap->Prop}(h:pU X.K H a xs)(h':H a=some (.ext φ)):False:=by
 rcases h with (h|⟨o,h⟩)|⟨o,its,n,hk,_⟩
 ·rw[h']at h;cases h
 ·rw[h']at h;cases h
 ·have:=(I.bs a o (I.mod.Rt a o hk)).2;rw[h']at this;cases this
theorem Yw{a:ae}{xs:List V}{o:Obj}{fd:dq}(I:Inv X pins σ H s)(h:jT X.K H a xs)(hk:X.K.lookup a=some o)(hd:o.data=.func fd):False:=by
 have hn:=(I.bs a o (I.mod.Rt a o hk)).2;rcases h with (h|⟨o',h⟩)|⟨o',its,n,hk',hs⟩
 ·rw[hn]at h;cases h
 ·rw[hn]at h;cases h
 ·rw[hk]at hk';cases hk';rcases hs with ⟨_,hs,_⟩;rw[hd]at hs;cases hs
theorem Yx{a:ae}{xs:List V}{o:Obj}{fd:dq}(I:Inv X pins σ H s)(h:pU X.K H a xs)(hk:X.K.lookup a=some o)(hd:o.data=.func fd):False:=by
 have hn:=(I.bs a o (I.mod.Rt a o hk)).2;rcases h with (h|⟨o',h⟩)|⟨o',its,n,hk',hs⟩
 ·rw[hn]at h;cases h
 ·rw[hn]at h;cases h
 ·rw[hk]at hk';cases hk';rcases hs with ⟨_,_,hs,_⟩;rw[hd]at hs;cases hs
theorem Sd(I:Inv X pins σ H s){a C dx:ae}{xs:List V}{fs:List (Str×V)}(h:jT X.K H a xs)(h':H a=some (.ins C dx fs)):False:=by
 rcases h with (h|⟨o,h⟩)|⟨o,its,n,hk,_⟩
 ·rw[h']at h;cases h
 ·rw[h']at h;cases h
 ·have:=(I.bs a o (I.mod.Rt a o hk)).2;rw[h']at this;cases this
theorem Sg(I:Inv X pins σ H s){a C dx:ae}{xs:List V}{fs:List (Str×V)}(h:pU X.K H a xs)(h':H a=some (.ins C dx fs)):False:=by
 rcases h with (h|⟨o,h⟩)|⟨o,its,n,hk,_⟩
 ·rw[h']at h;cases h
 ·rw[h']at h;cases h
 ·have:=(I.bs a o (I.mod.Rt a o hk)).2;rw[h']at this;cases this
mutual
theorem Rep.inj(I:Inv X pins σ H s):∀{d d':D}{v:V},jl d < bX->Rep X.K H d v->Rep X.K H d' v->d=d'
 | .non,d',v,_,h,h'=>by
  rw[lJ.mp h]at h';cases d' <;> simp only[Rep]at h' <;> first|rfl|(obtain⟨a,vs,e,_⟩:=h';cases e;done)|(obtain⟨a,U,bw,e,_⟩:=h';cases e;done)|(obtain⟨a,C,dx,us,e,_⟩:=h';cases e;done)|(cases h';rfl)|cases h'
 | .bl _,d',v,_,h,h'=>by
  rw[cJ.mp h]at h';cases d' <;> simp only[Rep]at h' <;> first|rfl|(obtain⟨a,vs,e,_⟩:=h';cases e;done)|(obtain⟨a,U,bw,e,_⟩:=h';cases e;done)|(obtain⟨a,C,dx,us,e,_⟩:=h';cases e;done)|(cases h';rfl)|cases h'
 | .int _,d',v,_,h,h'=>by
  rw[bA.mp h]at h';cases d' <;> simp only[Rep]at h' <;> first|rfl|(obtain⟨a,vs,e,_⟩:=h';cases e;done)|(obtain⟨a,U,bw,e,_⟩:=h';cases e;done)|(obtain⟨a,C,dx,us,e,_⟩:=h';cases e;done)|(cases h';rfl)|cases h'
 | .str _,d',v,_,h,h'=>by
  rw[pB.mp h]at h';cases d' <;> simp only[Rep]at h' <;> first|rfl|(obtain⟨a,vs,e,_⟩:=h';cases e;done)|(obtain⟨a,U,bw,e,_⟩:=h';cases e;done)|(obtain⟨a,C,dx,us,e,_⟩:=h';cases e;done)|(cases h';rfl)|cases h'
 | .tup ds,d',v,hd,h,h'=>by
  obtain⟨a,vs,rfl,q,r⟩:=bR.mp h;cases d' with
  |tup es =>
   obtain⟨b,us,e,q',r'⟩:=bR.mp h';cases e;rw[I.oK q' q]at r';rw[bF.inj I (by simp only[jl]at hd;lia) r r']
  |lst es =>
   obtain⟨b,us,e,q',r'⟩:=bJ.mp h';cases e;exact(Gg I q' q).elim
  |su c n =>
   obtain⟨b,C,_,e,_,q',_⟩:=qZ.mp h';cases e;exact(Gh I q q').elim
  |fn c =>
   obtain⟨b,o,fd,e,_,q1,q2⟩:=Jw.mp h';cases e;exact(Yw I q q1 q2).elim
  |obj c ns es =>
   obtain⟨b,C,dx,us,e,_,q',_⟩:=CT.mp h';cases e;exact(Sd I q q').elim
  |sy c n =>
   obtain⟨b,U,bw,e,⟨_,q'⟩,_⟩:=rm.mp h';cases e;exact(Gh I q q').elim
  |_=>simp only[Rep]at h';cases h'
 | .lst ds,d',v,hd,h,h'=>by
  obtain⟨a,vs,rfl,q,r⟩:=bJ.mp h;cases d' with
  |lst es =>
   obtain⟨b,us,e,q',r'⟩:=bJ.mp h';cases e;rw[I.FZ q' q]at r';rw[bF.inj I (by simp only[jl]at hd;lia) r r']
  |tup es =>
   obtain⟨b,us,e,q',r'⟩:=bR.mp h';cases e;exact(Gg I q q').elim
  |su c n =>
   obtain⟨b,C,_,e,_,q',_⟩:=qZ.mp h';cases e;exact(Gi I q q').elim
  |fn c =>
   obtain⟨b,o,fd,e,_,q1,q2⟩:=Jw.mp h';cases e;exact(Yx I q q1 q2).elim
  |obj c ns es =>
   obtain⟨b,C,dx,us,e,_,q',_⟩:=CT.mp h';cases e;exact(Sg I q q').elim
  |sy c n =>
   obtain⟨b,U,bw,e,⟨_,q'⟩,_⟩:=rm.mp h';cases e;exact(Gi I q q').elim
  |_=>simp only[Rep]at h';cases h'
 | .su _ _,d',v,hd,h,h'=>by simp only[jl]at hd;exact absurd hd (fw _)
 | .sy _ _,d',v,hd,h,h'=>by simp only[jl]at hd;exact absurd hd (fw _)
 | .fn _,d',v,hd,h,h'=>by simp only[jl]at hd;exact absurd hd (fw _)
 | .obj _ _ _,d',v,hd,h,h'=>by simp only[jl]at hd;exact absurd hd (fw _)
theorem bF.inj(I:Inv X pins σ H s):∀{ds es:List D}{vs:List V},jm ds < bX->bF X.K H ds vs->bF X.K H es vs->ds=es
 | [],es,vs,_,h,h'=>by
  rw[bf.mp h]at h';cases es with
  |nil=>rfl
  |cons e es=>obtain⟨v,vs',e1,_⟩:=aO.mp h';cases e1
 |d::ds,es,vs,hd,h,h'=>by
  obtain⟨v,vs',rfl,r1,r2⟩:=aO.mp h;simp only[jm]at hd;cases es with
  |nil=>have:=bf.mp h';cases this
  |cons e es =>
   obtain⟨v',vs'',e1,r1',r2'⟩:=aO.mp h';cases e1;rw[Rep.inj I (qi (Nat.le_max_left _ _) hd) r1 r1',bF.inj I (qi (Nat.le_max_right _ _) hd) r2 r2']
end
theorem yH(I:Inv X pins σ H s){m:Nat}{A:aI}{ds es:List D}{vs us:List V}{its its2:List aa}
  (ih:∀{d d':D}{v v':V}{u u':aa}{A:aI},jl d<=m->jl d'<=m->A.units + m < bX->Rep X.K H d v->Rep X.K H d' v'->RelV v u->RelV v' u'->og A s u u' (qe d d'))
  (hn:jm ds<=m) (hn':jm es<=m) (hu:A.in1.units + m < bX) (r1:bF X.K H ds vs) (r2:bF X.K H es us) (a1:Vals vs its) (a2:Vals us its2) :
  ∀j (h1:j < its.toArray.size) (h2:j < its2.toArray.size),og A.in1 s its.toArray[j] its2.toArray[j] (qe (ds.getD j .non) (es.getD j .non)):=by
 intro j h1 h2;have l1:j < ds.length:=by rw[r1.length,a1.length];simpa using h1
 have l2:j < es.length:=by rw[r2.length,a2.length];simpa using h2
 obtain⟨x,hx,rx⟩:=r1.get (i:=j) (d:=ds[j]) (by simp[l1]);obtain⟨y,hy,ry⟩:=r2.get (i:=j) (d:=es[j]) (by simp[l2]);obtain⟨p,hp,rp⟩:=a1.get hx;obtain⟨q,hq,rq⟩:=a2.get hy;have e1:its.toArray[j]=p:=by have:=(df.mp hp).2;simpa using this
 have e2:its2.toArray[j]=q:=by have:=(df.mp hq).2;simpa using this
 rw[e1,e2,f6,f6,du l1,du l2];exact ih (et (Dd (j7 l1)) hn) (et (Dd (j7 l2)) hn') hu rx ry rp rq
inductive Kd (X:Cx) (H:Hp) (s:af):D->aa->Prop
 |n:Kd X H s .non .none
 |b (x:Bool):Kd X H s (.bl x) (.bool x)
 |i (x:Int) (t:Tok):Kd X H s (.int x) (.int x t)
 |s (x:Str) (t:Tok):Kd X H s (.str x) (.str x t)
 |t {a:ae}{its:List aa}(ds:List D):s.heap.IsTuple a its.toArray->Kd X H s (.tup ds) (.ref a)
 |l {a:ae}{its:List aa}(ds:List D):s.heap.IsList a its.toArray->Kd X H s (.lst ds) (.ref a)
theorem wu(I:Inv X pins σ H s){n:Nat}{d:D}{v:V}{u:aa}(hd:jl d<=n)(hn:n < bX)(r:Rep X.K H d v)(e:RelV v u):Kd X H s d u:=by
 cases d with
 |non=>rw[lJ.mp r]at e;cases e;exact .n
 |bl x=>rw[cJ.mp r]at e;cases e;exact .b x
 |int x=>rw[bA.mp r]at e;obtain⟨t,rfl⟩:=e;exact .i x t
 |str x=>rw[pB.mp r]at e;obtain⟨t,rfl⟩:=e;exact .s x t
 |tup ds=>obtain⟨a,vs,rfl,q,_⟩:=bR.mp r;cases e;obtain⟨its,_,t,_⟩:=I.tuple q;exact .t ds t
 |lst ds=>obtain⟨a,vs,rfl,q,_⟩:=bJ.mp r;cases e;obtain⟨its,_,t,_⟩:=I.list q;exact .l ds t.isList
 |_=>simp only[jl]at hd;exact absurd hn (by lia)
noncomputable def sk:D->D->Bool
 | .tup _,.tup _=>true
 | .lst _,.lst _=>true
 |_,_=>false
open SeqAt in
theorem Gj{d d':D}{u u':aa}{A:aI}(k:Kd X H s d u)(k':Kd X H s d' u')(hu:A.units < bX)(hs:sk d d'=false):EqAt A s u u' (qe d d'):=by
 cases k with
 |n =>
  cases k' with
  |n=>exact EqAt.same _
  |b y=>exact EqAt.none_bool y
  |i y r=>exact EqAt.none_int y r
  |s y r=>exact EqAt.none_str y r
  |t es g=>exact EqAt.none_tuple g hu
  |l es g=>exact EqAt.none_list g hu
 |b x =>
  cases k' with
  |n=>exact EqAt.bool_none x
  |b y=>exact EqAt.bool_bool x y
  |i y r=>exact EqAt.bool_int x y r
  |s y r=>exact EqAt.bool_str x y r
  |t es g=>exact EqAt.bool_tuple x g hu
  |l es g=>exact EqAt.bool_list x g hu
 |i x t =>
  cases k' with
  |n=>exact EqAt.int_none x t
  |b y=>exact EqAt.int_bool x t y
  |i y r=>exact EqAt.int_int x t y r
  |s y r=>exact EqAt.int_str x t y r
  |t es g=>exact EqAt.int_tuple x t g hu
  |l es g=>exact EqAt.int_list x t g hu
 |s x t =>
  cases k' with
  |n=>exact EqAt.str_none x t
  |b y=>exact EqAt.str_bool x t y
  |i y r=>exact EqAt.str_int x t y r
  |s y r=>exact EqAt.str_str x t y r
  |t es g=>exact EqAt.str_tuple x t g hu
  |l es g=>exact EqAt.str_list x t g hu
 |t ds h =>
  cases k' with
  |n=>exact EqAt.tuple_none h hu
  |b y=>exact EqAt.tuple_bool y h hu
  |i y r=>exact EqAt.tuple_int y r h hu
  |s y r=>exact EqAt.tuple_str y r h hu
  |t es g=>cases hs
  |l es g=>exact EqAt.tuple_list h g hu
 |l ds h =>
  cases k' with
  |n=>exact EqAt.list_none h hu
  |b y=>exact EqAt.list_bool y h hu
  |i y r=>exact EqAt.list_int y r h hu
  |s y r=>exact EqAt.list_str y r h hu
  |t es g=>exact EqAt.list_tuple h g hu
  |l es g=>cases hs
open SeqAt in
theorem abZ(I:Inv X pins σ H s):∀(n:Nat) {d d':D}{v v':V}{u u':aa}{A:aI},jl d<=n->jl d'<=n->A.units + n < bX->Rep X.K H d v->Rep X.K H d' v'->RelV v u->RelV v' u'->EqAt A s u u' (qe d d'):=by
 intro n
 induction n with
 |zero =>
  intro d d' v v' u u' A hd hd' hu r r' e e';exact Gj (wu I hd (by lia) r e) (wu I hd' (by lia) r' e') (by lia) (by cases d <;> cases d' <;> first|rfl|(simp only[jl]at hd;lia))
 |succ m ih =>
  intro d d' v v' u u' A hd hd' hu r r' e e';have hu0:A.units < bX:=by lia
  cases hs:sk d d' with
  |false=>exact Gj (wu I hd (by lia) r e) (wu I hd' (by lia) r' e') hu0 hs
  |true =>
   cases d with
   |tup ds =>
    cases d' with
    |tup es =>
     obtain⟨a,vs,rfl,q,rr⟩:=bR.mp r;cases e;obtain⟨its,av,t,_⟩:=I.tuple q;obtain⟨b,us,rfl,q',rr'⟩:=bR.mp r';cases e';obtain⟨its2,Bh,t2,_⟩:=I.tuple q';have hn:jm ds<=m:=by simp only[jl]at hd;lia
     have hn':jm es<=m:=by simp only[jl]at hd';lia
     by_cases hab:a=b
     ·subst hab;rw[Rep.inj I (by lia) r r',yG];exact EqAt.same _
     have items:=yH I ih hn hn' (show A.in1.units + m < bX by show A.units + 1 + m < _;lia) rr rr' av Bh;have h:=RcAt.tuples (A:=A) t t2 hu0 items;rw[cE,cE,<- av.length,<- Bh.length,<- rr.length,<- rr'.length,dR]at h;exact EqAt.of_refs hab h
    |_=>cases hs
   |lst ds =>
    cases d' with
    |lst es =>
     obtain⟨a,vs,rfl,q,rr⟩:=bJ.mp r;cases e;obtain⟨its,av,t1,_⟩:=I.list q;have t:=t1.isList;obtain⟨b,us,rfl,q',rr'⟩:=bJ.mp r';cases e';obtain⟨its2,Bh,t3,_⟩:=I.list q';have t2:=t3.isList;have hn:jm ds<=m:=by simp only[jl]at hd;lia
     have hn':jm es<=m:=by simp only[jl]at hd';lia
     by_cases hab:a=b
     ·subst hab;rw[Rep.inj I (by lia) r r',yG];exact EqAt.same _
     have items:=yH I ih hn hn' (show A.in1.units + m < bX by show A.units + 1 + m < _;lia) rr rr' av Bh;by_cases hl:its.toArray.size=its2.toArray.size
     ·have h:=RcAt.lists (A:=A) t t2 hl hu0 items;rw[cE,<- av.length,<- rr.length]at h;have hl':ds.length=es.length:=by rw[rr.length,rr'.length,av.length,Bh.length];simpa using hl
      have e1:=dR ds es;rw[hl',t_]at e1;simp only[beq_self_eq_true,ue]at e1;rw[hl',e1]at h;exact EqAt.of_refs hab h
     ·have h:=RcAt.lists_lengths (A:=A) t t2 (by simpa using hl) hu0;have hl':ds.length≠es.length:=by rw[rr.length,rr'.length,av.length,Bh.length];simpa using hl
      have e1:=dR ds es;rw[show(ds.length == es.length)=false by simpa using hl',ui]at e1;rw[show qe (.lst ds) (.lst es)=false by rw[qe,<- e1]];exact EqAt.of_refs hab h
    |_=>cases hs
   |_=>cases d' <;> cases hs
end
section
variable{X:Cx}{pins:List (ae×Obj)}{σ:St}{H:Hp}{s:af}
theorem tZ(I:Inv X pins σ H s){m:Nat}{A:aI}{ds es:List D}{vs us:List V}{its its2:List aa}(hn:jm ds<=m)(hn':jm es<=m)(hu:A.in1.units + m < bX)(r1:bF X.K H ds vs)(r2:bF X.K H es us)(a1:Vals vs its)(a2:Vals us its2) :
  ∀j (h1:j < its.toArray.size) (h2:j < its2.toArray.size),og A.in1 s its.toArray[j] its2.toArray[j] (qe (ds.getD j .non) (es.getD j .non)) :=
 yH I (fun a b c d e f g=>abZ I m a b c d e f g) hn hn' hu r1 r2 a1 a2
open SeqAt in
theorem Yy{d d':D}{u u':aa}{A:aI}(k:Kd X H s d u)(k':Kd X H s d' u')(hu:A.units < bX)(hs:sk d d'=false):RcAt A s u u' (qe d d'):=by
 cases k with
 |n =>
  cases k' with
  |n=>exact RcAt.none_none
  |b y=>exact RcAt.none_bool y
  |i y r=>exact RcAt.none_int y r
  |s y r=>exact RcAt.none_str y r
  |t es g=>exact RcAt.none_tuple g hu
  |l es g=>exact RcAt.none_list g hu
 |b x =>
  cases k' with
  |n=>exact RcAt.bool_none x
  |b y=>exact RcAt.bool_bool x y
  |i y r=>exact RcAt.bool_int x y r
  |s y r=>exact RcAt.bool_str x y r
  |t es g=>exact RcAt.bool_tuple x g hu
  |l es g=>exact RcAt.bool_list x g hu
 |i x t =>
  cases k' with
  |n=>exact RcAt.int_none x t
  |b y=>exact RcAt.int_bool x t y
  |i y r=>exact RcAt.int_int x t y r
  |s y r=>exact RcAt.int_str x t y r
  |t es g=>exact RcAt.int_tuple x t g hu
  |l es g=>exact RcAt.int_list x t g hu
 |s x t =>
  cases k' with
  |n=>exact RcAt.str_none x t
  |b y=>exact RcAt.str_bool x t y
  |i y r=>exact RcAt.str_int x t y r
  |s y r=>exact RcAt.str_str x t y r
  |t es g=>exact RcAt.str_tuple x t g hu
  |l es g=>exact RcAt.str_list x t g hu
 |t ds h =>
  cases k' with
  |n=>exact RcAt.tuple_none h hu
  |b y=>exact RcAt.tuple_bool y h hu
  |i y r=>exact RcAt.tuple_int y r h hu
  |s y r=>exact RcAt.tuple_str y r h hu
  |t es g=>cases hs
  |l es g=>exact RcAt.tuple_list h g hu
 |l ds h =>
  cases k' with
  |n=>exact RcAt.list_none h hu
  |b y=>exact RcAt.list_bool y h hu
  |i y r=>exact RcAt.list_int y r h hu
  |s y r=>exact RcAt.list_str y r h hu
  |t es g=>exact RcAt.list_tuple h g hu
  |l es g=>cases hs
open SeqAt in
theorem acd(I:Inv X pins σ H s){n:Nat}{d d':D}{v v':V}{u u':aa}{A:aI}(hd:jl d<=n)(hd':jl d'<=n)(hu:A.units + n < bX)(r:Rep X.K H d v)(r':Rep X.K H d' v')(e:RelV v u)(e':RelV v' u'):RcAt A s u u' (qe d d'):=by
 have hu0:A.units < bX:=by lia
 cases hs:sk d d' with
 |false=>exact Yy (wu I hd (by lia) r e) (wu I hd' (by lia) r' e') hu0 hs
 |true =>
  obtain⟨m,rfl⟩:∃m,n=m + 1:=⟨n - 1,by cases d <;> first|(simp only[jl]at hd;lia)|(cases d' <;> cases hs)⟩
  cases d with
  |tup ds =>
   cases d' with
   |tup es =>
    obtain⟨a,vs,rfl,q,rr⟩:=bR.mp r;cases e;obtain⟨its,av,t,_⟩:=I.tuple q;obtain⟨b,us,rfl,q',rr'⟩:=bR.mp r';cases e';obtain⟨its2,Bh,t2,_⟩:=I.tuple q';have hn:jm ds<=m:=by simp only[jl]at hd;lia
    have hn':jm es<=m:=by simp only[jl]at hd';lia
    have items:=tZ I hn hn' (show A.in1.units + m < bX by show A.units + 1 + m < _;lia) rr rr' av Bh;have h:=RcAt.tuples (A:=A) t t2 hu0 items;rw[cE,cE,<- av.length,<- Bh.length,<- rr.length,<- rr'.length,dR]at h;exact h
   |_=>cases hs
  |lst ds =>
   cases d' with
   |lst es =>
    obtain⟨a,vs,rfl,q,rr⟩:=bJ.mp r;cases e;obtain⟨its,av,t1,_⟩:=I.list q;have t:=t1.isList;obtain⟨b,us,rfl,q',rr'⟩:=bJ.mp r';cases e';obtain⟨its2,Bh,t3,_⟩:=I.list q';have t2:=t3.isList;have hn:jm ds<=m:=by simp only[jl]at hd;lia
    have hn':jm es<=m:=by simp only[jl]at hd';lia
    have items:=tZ I hn hn' (show A.in1.units + m < bX by show A.units + 1 + m < _;lia) rr rr' av Bh;by_cases hl:its.toArray.size=its2.toArray.size
    ·have h:=RcAt.lists (A:=A) t t2 hl hu0 items;rw[cE,<- av.length,<- rr.length]at h;have hl':ds.length=es.length:=by rw[rr.length,rr'.length,av.length,Bh.length];simpa using hl
     have e1:=dR ds es;rw[hl',t_]at e1;simp only[beq_self_eq_true,ue]at e1;rw[hl',e1]at h;exact h
    ·have h:=RcAt.lists_lengths (A:=A) t t2 (by simpa using hl) hu0;have hl':ds.length≠es.length:=by rw[rr.length,rr'.length,av.length,Bh.length];simpa using hl
     have e1:=dR ds es;rw[show(ds.length == es.length)=false by simpa using hl',ui]at e1;rw[show qe (.lst ds) (.lst es)=false by rw[qe,<- e1]];exact h
   |_=>cases hs
  |_=>cases d' <;> cases hs
open SeqAt in
theorem PL{d d':D}{u u':aa}{A:aI}(k:Kd X H s d u)(k':Kd X H s d' u')(hu:A.units < bX)(hs:sk d d'=false):RcNeAt A s u u' (!qe d d'):=by
 cases k with
 |n =>
  cases k' with
  |n=>exact RcNeAt.none_none
  |b y=>exact RcNeAt.none_bool y
  |i y r=>exact RcNeAt.none_int y r
  |s y r=>exact RcNeAt.none_str y r
  |t es g=>exact RcNeAt.none_tuple g hu
  |l es g=>exact RcNeAt.none_list g hu
 |b x =>
  cases k' with
  |n=>exact RcNeAt.bool_none x
  |b y=>exact RcNeAt.bool_bool x y
  |i y r=>exact RcNeAt.bool_int x y r
  |s y r=>exact RcNeAt.bool_str x y r
  |t es g=>exact RcNeAt.bool_tuple x g hu
  |l es g=>exact RcNeAt.bool_list x g hu
 |i x t =>
  cases k' with
  |n=>exact RcNeAt.int_none x t
  |b y=>exact RcNeAt.int_bool x t y
  |i y r=>exact RcNeAt.int_int x t y r
  |s y r=>exact RcNeAt.int_str x t y r
  |t es g=>exact RcNeAt.int_tuple x t g hu
  |l es g=>exact RcNeAt.int_list x t g hu
 |s x t =>
  cases k' with
  |n=>exact RcNeAt.str_none x t
  |b y=>exact RcNeAt.str_bool x t y
  |i y r=>exact RcNeAt.str_int x t y r
  |s y r=>exact RcNeAt.str_str x t y r
  |t es g=>exact RcNeAt.str_tuple x t g hu
  |l es g=>exact RcNeAt.str_list x t g hu
 |t ds h =>
  cases k' with
  |n=>exact RcNeAt.tuple_none h hu
  |b y=>exact RcNeAt.tuple_bool y h hu
  |i y r=>exact RcNeAt.tuple_int y r h hu
  |s y r=>exact RcNeAt.tuple_str y r h hu
  |t es g=>cases hs
  |l es g=>exact RcNeAt.tuple_list h g hu
 |l ds h =>
  cases k' with
  |n=>exact RcNeAt.list_none h hu
  |b y=>exact RcNeAt.list_bool y h hu
  |i y r=>exact RcNeAt.list_int y r h hu
  |s y r=>exact RcNeAt.list_str y r h hu
  |t es g=>exact RcNeAt.list_tuple h g hu
  |l es g=>cases hs
open SeqAt in
theorem Sh(I:Inv X pins σ H s){n:Nat}{d d':D}{v v':V}{u u':aa}{A:aI}(hd:jl d<=n)(hd':jl d'<=n)(hu:A.units + n < bX)(r:Rep X.K H d v)(r':Rep X.K H d' v')(e:RelV v u)(e':RelV v' u'):RcNeAt A s u u' (!qe d d'):=by
 have hu0:A.units < bX:=by lia
 cases hs:sk d d' with
 |false=>exact PL (wu I hd (by lia) r e) (wu I hd' (by lia) r' e') hu0 hs
 |true =>
  obtain⟨m,rfl⟩:∃m,n=m + 1:=⟨n - 1,by cases d <;> first|(simp only[jl]at hd;lia)|(cases d' <;> cases hs)⟩
  cases d with
  |tup ds =>
   cases d' with
   |tup es =>
    obtain⟨a,vs,rfl,q,rr⟩:=bR.mp r;cases e;obtain⟨its,av,t,_⟩:=I.tuple q;obtain⟨b,us,rfl,q',rr'⟩:=bR.mp r';cases e';obtain⟨its2,Bh,t2,_⟩:=I.tuple q';have hn:jm ds<=m:=by simp only[jl]at hd;lia
    have hn':jm es<=m:=by simp only[jl]at hd';lia
    have items:=tZ I hn hn' (show A.in1.units + m < bX by show A.units + 1 + m < _;lia) rr rr' av Bh;have h:=RcNeAt.tuples (A:=A) t t2 hu0 items;rw[cE,cE,<- av.length,<- Bh.length,<- rr.length,<- rr'.length,dR]at h;exact h
   |_=>cases hs
  |lst ds =>
   cases d' with
   |lst es =>
    obtain⟨a,vs,rfl,q,rr⟩:=bJ.mp r;cases e;obtain⟨its,av,t1,_⟩:=I.list q;have t:=t1.isList;obtain⟨b,us,rfl,q',rr'⟩:=bJ.mp r';cases e';obtain⟨its2,Bh,t3,_⟩:=I.list q';have t2:=t3.isList;have hn:jm ds<=m:=by simp only[jl]at hd;lia
    have hn':jm es<=m:=by simp only[jl]at hd';lia
    have items:=tZ I hn hn' (show A.in1.units + m < bX by show A.units + 1 + m < _;lia) rr rr' av Bh;by_cases hl:its.toArray.size=its2.toArray.size
    ·have h:=RcNeAt.lists (A:=A) t t2 hl hu0 items;rw[cE,<- av.length,<- rr.length]at h;have hl':ds.length=es.length:=by rw[rr.length,rr'.length,av.length,Bh.length];simpa using hl
     have e1:=dR ds es;rw[hl',t_]at e1;simp only[beq_self_eq_true,ue]at e1;rw[hl',e1]at h;exact h
    ·have h:=RcNeAt.lists_lengths (A:=A) t t2 (by simpa using hl) hu0;have hl':ds.length≠es.length:=by rw[rr.length,rr'.length,av.length,Bh.length];simpa using hl
     have e1:=dR ds es;rw[show(ds.length == es.length)=false by simpa using hl',ui]at e1;rw[show qe (.lst ds) (.lst es)=false by rw[qe,<- e1]];exact h
   |_=>cases hs
  |_=>cases d' <;> cases hs
end
noncomputable def sG(W:Wi)(σ:St)(G H:Hp)(r:Rs Bool)(Q:Bool->Hp->Prop):Prop :=
 match r with
 | .ok b=>∀H' G',Ext G H G' H'->Q b H'
 | .ex c n=>∀H' G',Ext G H G' H'->W c n σ H'
 | .no=>False
noncomputable def tT(K:ai)(B:Bs)(W:Wi)(f:aH->Rs Bool):TT:=fun σ H Q=>∃ρ G,SR K B σ H ρ G/\sG W σ G H (f ρ) Q
noncomputable def ST(X:Cx)(B:Bs)(W:Wi)(e:ah)(f:aH->Rs Bool):Prop:=PT X e (tT X.K B W f)
noncomputable def SW(X:Cx)(B:Bs)(W:Wi)(e:ah)(f:aH->Rs Bool):Prop:=PW X e (tT X.K B W f)
noncomputable def aaO(K:ai)(W:Wi)(σ:St)(G H:Hp)(r:Rs (List D))(Q:List V->Hp->Prop):Prop :=
 match r with
 | .ok ds=>∀vs H' G',Ext G H G' H'->bF K G' ds vs->Q vs H'
 | .ex c n=>∀H' G',Ext G H G' H'->W c n σ H'
 | .no=>False
noncomputable def tAF(K:ai)(B:Bs)(W:Wi)(f:aH->Rs (List D)):TA:=fun σ H Q=>∃ρ G,SR K B σ H ρ G/\aaO K W σ G H (f ρ) Q
noncomputable def SA(X:Cx)(B:Bs)(W:Wi)(es:List ah)(f:aH->Rs (List D)):Prop:=PA X es (tAF X.K B W f)
theorem PW.imp{X:Cx}{e:ah}{t t':TT}(h:PW X e t)(i:∀σ H Q,t' σ H Q->t σ H Q):PW X e t':=fun wh pins s σ H Q I q=>h wh pins s σ H Q I (i σ H Q q)
noncomputable def toB:D->Rs Bool
 | .bl b=>.ok b
 |_=>.no
noncomputable def fT(f:aH->Rs D):aH->Rs Bool:=fun ρ=>(f ρ).bind toB
noncomputable def wN(a b:aH->Rs Bool):aH->Rs Bool:=fun ρ=>(a ρ).bind fun x=>if x=true then b ρ else .ok false
noncomputable def fOr(a b:aH->Rs Bool):aH->Rs Bool:=fun ρ=>(a ρ).bind fun x=>if x=true then .ok true else b ρ
noncomputable def yI(a:aH->Rs Bool):aH->Rs Bool:=fun ρ=>(a ρ).bind fun x=>.ok (!x)
noncomputable def ak(a:aH->Rs D)(r:aH->Rs (List D)):aH->Rs (List D):=fun ρ=>(a ρ).bind fun x=>(r ρ).bind fun xs=>.ok (x::xs)
noncomputable def aZ:aH->Rs (List D):=fun _=>.ok []
noncomputable def fA(a:aH->Rs (List D))(g:List D->Rs D):aH->Rs D:=fun ρ=>(a ρ).bind g
section
variable{X:Cx}{K:ai}{B:Bs}{W:Wi}{σ:St}{G H:Hp}{ρ:aH}
theorem sG.ext{r:Rs Bool}{Q:Bool->Hp->Prop}{G' H':Hp}(e:Ext G H G' H')(h:sG W σ G H r Q):sG W σ G' H' r Q:=by
 cases r with
 |ok d=>exact fun CZ G'' e'=>h CZ G'' (e.trans e')
 |ex c n=>exact fun CZ G'' e'=>h CZ G'' (e.trans e')
 |no=>exact h
theorem aaQ{f:aH->Rs D}{Q:Bool->Hp->Prop}(h:tT K B W (fT f) σ H Q):tF K B W f σ H fun x H1=>∃c,x=.bl c/\Q c H1:=by
 obtain⟨ρ,G,s,p⟩:=h;refine⟨ρ,G,s,?_⟩;unfold fT at p;cases e:f ρ with
 |ok d =>
  rw[e]at p;cases d with
  |bl b=>exact fun v H' G' e r=>⟨b,cJ.mp r,p H' G' e⟩
  |_=>exact p.elim
 |ex c n=>rw[e]at p;exact p
 |no=>rw[e]at p;exact p
theorem jK{e:ah}{f:aH->Rs D}(h:SE X B W e f)(he:∀whole,isTrue e X.env whole=(do let v <- whole;me e.pos;eL [v] (truthy v)):=by intro _;rfl):ST X B W e (fT f) :=
 PT.imp (abA h he) fun _ _ _ h=>aaQ h
theorem sU{a b:ah}{op:kU}{pos:Pos}{r:R2}{g:D->D->Rs D}{fa fb:aH->Rs D}(ho:tR X (gd op) r)(hg:Ms X.K r g)(ha:SE X B W a fa)(hb:SE X B W b fb)(hm:i3 op b=false) :
  ST X B W (.Compare a [op] [b] pos) (fT (bH g fa fb)):=by
 refine PT.imp (Yn ho ha hb hm) fun σ H Q h=>?_;exact yE hg (aaQ h)
theorem Jy{a b:ah}{op:kU}{pos:Pos}{r:R2}{g:D->D->Rs D}{fa fb:aH->Rs D}(ho:tR X (gd op) r)(hg:Ms X.K r g)(ha:SE X B W a fa)(hb:SE X B W b fb)(hm:i3 op b=false) :
  SE X B W (.Compare a [op] [b] pos) (bH g fa fb):=PE.imp (Ym ho ha hb hm) fun _ _ _ h=>yE hg h
theorem Df{a:ah}{pos:Pos}{fa:aH->Rs Bool}(ha:ST X B W a fa):SW X B W (.BoolOp .And [a] pos) fa:=Yg ha
theorem ace{a:ah}{pos:Pos}{fa:aH->Rs Bool}(ha:ST X B W a fa):SW X B W (.BoolOp .Or [a] pos) fa:=abB ha
theorem Jz{a b:ah}{cj:List ah}{pos:Pos}{fa fb:aH->Rs Bool}(ha:ST X B W a fa)(hb:SW X B W (.BoolOp .And (b::cj) pos) fb):SW X B W (.BoolOp .And (a::b::cj) pos) (wN fa fb):=by
 refine PW.imp (abC ha hb) fun σ H Q ⟨ρ,G,s,p⟩=>⟨ρ,G,s,?_⟩
 unfold wN at p;cases e:fa ρ with
 |ok x =>
  rw[e]at p;intro H' G' ee;cases x with
  |true=>rw[if_pos rfl];exact⟨ρ,G',s.ext ee,sG.ext ee (show sG W σ G H (fb ρ) Q from p)⟩
  |false=>rw[if_neg (by simp)];exact(show sG W σ G H (.ok false) Q from p) H' G' ee
 |ex c n=>rw[e]at p;exact p
 |no=>rw[e]at p;exact p
theorem aeP{a b:ah}{cj:List ah}{pos:Pos}{fa fb:aH->Rs Bool}(ha:ST X B W a fa)(hb:SW X B W (.BoolOp .Or (b::cj) pos) fb):SW X B W (.BoolOp .Or (a::b::cj) pos) (fOr fa fb):=by
 refine PW.imp (ael ha hb) fun σ H Q ⟨ρ,G,s,p⟩=>⟨ρ,G,s,?_⟩
 unfold fOr at p;cases e:fa ρ with
 |ok x =>
  rw[e]at p;intro H' G' ee;cases x with
  |true=>rw[if_pos rfl];exact(show sG W σ G H (.ok true) Q from p) H' G' ee
  |false=>rw[if_neg (by simp)];exact⟨ρ,G',s.ext ee,sG.ext ee (show sG W σ G H (fb ρ) Q from p)⟩
 |ex c n=>rw[e]at p;exact p
 |no=>rw[e]at p;exact p
theorem Yz{e:ah}{f:aH->Rs Bool}(h:SW X B W e f):ST X B W e f:=PW.pt h
theorem Dg{a:ah}{pos:Pos}{fa:aH->Rs Bool}(ha:ST X B W a fa):ST X B W (.UnaryOp .Not a pos) (yI fa):=by
 refine PT.imp (abD ha) fun σ H Q ⟨ρ,G,s,p⟩=>⟨ρ,G,s,?_⟩
 unfold yI at p;cases e:fa ρ with
 |ok x=>rw[e]at p;exact p
 |ex c n=>rw[e]at p;exact p
 |no=>rw[e]at p;exact p
noncomputable def pW(a b:aH->Rs D):aH->Rs D:=fun ρ=>(a ρ).bind fun x=>(toB x).bind fun c=>if c=true then b ρ else .ok (.bl false)
noncomputable def acf(a b:aH->Rs D):aH->Rs D:=fun ρ=>(a ρ).bind fun x=>(toB x).bind fun c=>if c=true then .ok (.bl true) else b ρ
noncomputable def Gk(a:aH->Rs D):aH->Rs D:=fun ρ=>(a ρ).bind fun x=>(toB x).bind fun c=>.ok (.bl !c)
theorem yJ{op}{a:ah}{pos:Pos}{fa:aH->Rs D}(ha:SE X B W a fa):SE X B W (.BoolOp op [a] pos) fa:=abE ha
theorem uY{a b:ah}{cj:List ah}{pos:Pos}{fa fb:aH->Rs D}(ha:SE X B W a fa)(hb:SE X B W (.BoolOp .And (b::cj) pos) fb):SE X B W (.BoolOp .And (a::b::cj) pos) (pW fa fb):=by
 refine PE.imp (abF ha hb) fun σ H Q h=>?_;obtain⟨ρ,G,s,p⟩:=mZ (k:=fun ρ x=>(toB x).bind fun c=>if c=true then fb ρ else .ok (.bl false)) h;refine⟨ρ,G,s,p.mono fun v H1 ⟨ρ1,G1,d,s1,r,q⟩=>?_⟩;cases d with
 |bl c =>
  refine⟨c,cJ.mp r,?_⟩;cases c with
  |true=>rw[if_pos rfl];exact⟨ρ1,G1,s1,q⟩
  |false=>rw[if_neg (by simp)];exact Post.ok s1 q (cJ.mpr rfl)
 |_=>exact q.elim
theorem acg{a:ah}{pos:Pos}{fa:aH->Rs D}(ha:SE X B W a fa):SE X B W (.UnaryOp .Not a pos) (Gk fa):=by
 refine PE.imp (abG ha) fun σ H Q h=>?_;obtain⟨ρ,G,s,p⟩:=mZ (k:=fun ρ x=>(toB x).bind fun c=>.ok (.bl !c)) h;refine⟨ρ,G,s,p.mono fun v H1 ⟨ρ1,G1,d,s1,r,q⟩=>?_⟩;cases d with
 |bl c=>exact⟨c,cJ.mp r,Post.ok s1 q (cJ.mpr rfl)⟩
 |_=>exact q.elim
theorem aQ:SA X B W [] aZ:=PA.imp jJ fun σ H Q ⟨ρ,G,s,p⟩=>p [] H G s.uW (bf.mpr rfl)
theorem aq{e:ah}{es:List ah}{fe:aH->Rs D}{fs:aH->Rs (List D)}(ha:SE X B W e fe)(hr:SA X B W es fs)(hs:bg (e::es) X.env=(false,aS e X.env)::bg es X.env:=by rfl):SA X B W (e::es) (ak fe fs):=by
 refine PA.imp (eN ha hr hs) fun σ H Q ⟨ρ,G,s,p⟩=>⟨ρ,G,s,?_⟩
 unfold ak at p;cases e1:fe ρ with
 |ok d =>
  rw[e1]at p;intro v H1 G1 x1 r1;refine⟨ρ,G1,s.ext x1,?_⟩;have p':aaO X.K W σ G H ((fs ρ).bind fun xs=>.ok (d::xs)) Q:=p;cases e2:fs ρ with
  |ok ds =>
   rw[e2]at p';intro vs H2 G2 x2 r2;exact p' (v::vs) H2 G2 (x1.trans x2) (aO.mpr ⟨v,vs,rfl,r1.mono x2.gg,r2⟩)
  |ex c n=>rw[e2]at p';exact fun H2 G2 x2=>p' H2 G2 (x1.trans x2)
  |no=>rw[e2]at p';exact p'
 |ex c n=>rw[e1]at p;exact p
 |no=>rw[e1]at p;exact p
noncomputable def qm(K:ai)(r:List V->Hp->VK->Prop)(g:List D->Rs D):Prop :=
 ∀(B:Bs) (W:Wi) (σ:St) (ρ:aH) (G H:Hp) (ds:List D) (vs:List V) (Q:VK),SR K B σ H ρ G->bF K G ds vs->Post K W σ G H (g ds) Q->r vs H Q
theorem Mu{t:aH->Rs (List D)}{g:List D->Rs D}{r:List V->Hp->VK->Prop}{Q:VK}(hg:qm K r g)(h:tF K B W (fA t g) σ H Q):tAF K B W t σ H fun vs H1=>r vs H1 Q:=by
 obtain⟨ρ,G,s,p⟩:=h;refine⟨ρ,G,s,?_⟩;unfold fA at p;cases e:t ρ with
 |ok ds=>rw[e]at p;exact fun vs H1 G1 x r=>hg B W σ ρ G1 H1 ds vs Q (s.ext x) r (Post.ext x p)
 |ex c n=>rw[e]at p;exact p
 |no=>rw[e]at p;exact p
noncomputable def gP:List D->Rs D:=fun ds=>if ds.length<=1000 then .ok (.tup ds) else .no
noncomputable def wO:List D->Rs D:=fun ds=>if ds.length<=1000 then .ok (.lst ds) else .no
theorem yK{n:Nat}(h:n<=1000):n<=sizeLine:=iX (PK h)
theorem dw{es:List ah}{x1}{pos:Pos}{f:aH->Rs (List D)}(h:SA X B W es f):SE X B W (.Tuple es x1 pos) (fA f gP):=by
 refine PE.imp (RK h) fun σ H Q q=>Mu (r:=fun xs H1 Q=>xs.length<=sizeLine/\∀p,H1 p=none->Q (.ref p) (upd H1 p (.tup xs))) ?_ q;intro B W σ ρ G H ds vs Q s r p;unfold gP at p;by_cases hl:ds.length<=1000
 ·rw[if_pos hl]at p;refine⟨by rw[<- r.length];exact yK hl,fun a ha=>?_⟩;have x:=tY (xs:=vs) s.en.gh s.en.tp ha;exact p _ _ _ x (bR.mpr ⟨a,vs,rfl,.of aW,r.mono x.gg⟩)
 ·rw[if_neg hl]at p;exact p.elim
theorem uZ{es:List ah}{pos:Pos}{f:aH->Rs (List D)}(h:SA X B W es f):SE X B W (.List es pos) (fA f wO):=by
 refine PE.imp (Jt h) fun σ H Q q=>Mu (r:=fun xs H1 Q=>xs.length<=sizeLine/\∀p,H1 p=none->Q (.ref p) (upd H1 p (.lst xs))) ?_ q;intro B W σ ρ G H ds vs Q s r p;unfold wO at p;by_cases hl:ds.length<=1000
 ·rw[if_pos hl]at p;refine⟨by rw[<- r.length];exact yK hl,fun a ha=>?_⟩;have x:=pC (xs:=vs) s.en.gh s.en.tp ha;exact p _ _ _ x (bJ.mpr ⟨a,vs,rfl,.of aW,r.mono x.gg⟩)
 ·rw[if_neg hl]at p;exact p.elim
noncomputable def gU:D->D->Rs D
 | .tup ds,.int i=>match xR ds i with|some d=>.ok d|none=>.no
 | .lst ds,.int i=>match xR ds i with|some d=>.ok d|none=>.no
 |_,_=>.no
theorem Gm{ds:List D}{vs:List V}{i:Int}{d:D}(r:bF K G ds vs)(h:xR ds i=some d):∃v,xR vs i=some v/\Rep K G d v:=by
 unfold xR at h ⊢;rw[<- r.length];cases e:Pz ds.length i with
 |none=>rw[e]at h;cases h
 |some j=>rw[e]at h;exact r.get (i:=j) h
theorem ach:Ms K (rIx K) gU:=by
 intro B W σ ρ G H x y v u Q s rx ry p;cases y <;> first|(cases x <;> exact p.elim)|skip
 rename_i i;cases x with
 |tup ds =>
  simp only[gU]at p;obtain⟨a,vs,rfl,q,rr⟩:=bR.mp rx;cases e:xR ds i with
  |none=>rw[e]at p;exact p.elim
  |some d =>
   rw[e]at p;obtain⟨w,e2,Ys⟩:=Gm rr e;exact .inr (.inl ⟨a,vs,i,w,rfl,bA.mp ry,Same.cV s.en.gh q,e2,Post.ok s p Ys⟩)
 |lst ds =>
  simp only[gU]at p;obtain⟨a,vs,rfl,q,rr⟩:=bJ.mp rx;cases e:xR ds i with
  |none=>rw[e]at p;exact p.elim
  |some d =>
   rw[e]at p;obtain⟨w,e2,Ys⟩:=Gm rr e;exact .inl ⟨a,vs,i,w,rfl,bA.mp ry,s.en.gh.seq q,e2,Post.ok s p Ys⟩
 |_=>exact p.elim
theorem cC{a b:ah}{pos:Pos}{fa fb:aH->Rs D}(ha:SE X B W a fa)(hb:SE X B W b fb)(hs:xT b:=by intro _ _;rfl):SE X B W (.Subscript a b pos) (bH gU fa fb) :=
 PE.imp (RN abV ha hb hs) fun _ _ _ h=>yE ach h
instance (i j:Int):Decidable (Js i j):=by unfold Js;exact inferInstance
instance (i j:Int):Decidable (RG i j):=by unfold RG;exact inferInstance
noncomputable def CDB(i j:Int):Prop:=0 < j/\j < 2 ^ 200
instance (i j:Int):Decidable (CDB i j):=by unfold CDB;exact inferInstance
theorem CDB.py{i j:Int}(h:CDB i j):cw.divisionGoesByPylong i j=false:=by
 refine PyProof.noPylong_of_log2 ?_;have h1:j.natAbs < 2 ^ 200:=by have:=h.1;have:=h.2;lia
 have h2:j.natAbs.log2 < 200:=(Nat.log2_lt (by have:=h.1;lia)).mpr h1;lia
theorem Sq:tR X (i0 .FloorDiv) (rI CDB fun i j=>.int (i / j)):=opI fun i j _ _ _ _ _ hc q=>by have h1:=hc.1;rw[<- Int.fdiv_eq_ediv_of_nonneg i (by lia)]at q;exact PyProof.Rows.floordiv_int (by lia) q (.inl hc.py)
noncomputable def nY:=gI0 fun i j=>D.int (i - j)
noncomputable def fZ:=gI Js fun i j=>D.int (i * j)
noncomputable def wQ:=gI CDB fun i j=>D.int (i / j)
instance (i j:Int):Decidable ((fun(_:Int) (j:Int)=>0 < j) i j):=inferInstanceAs (Decidable (0 < j))
noncomputable def oM:=gI (fun _ j=>0 < j) fun i j=>D.int (i % j)
noncomputable def mq:=gI RG fun i j=>D.int (i ^ j.toNat)
variable{a b:ah}{pos:Pos}{fa fb:aH->Rs D}
theorem jo(ha:SE X B W a fa)(hb:SE X B W b fb):SE X B W (.BinOp a .Sub b pos) (bH nY fa fb):=Bg abN (Dc fun _ _ _=>bA.mpr rfl) ha hb
theorem jq(ha:SE X B W a fa)(hb:SE X B W b fb):SE X B W (.BinOp a .Mult b pos) (bH fZ fa fb):=Bg abO (Mt fun _ _ _=>bA.mpr rfl) ha hb
theorem Dh(ha:SE X B W a fa)(hb:SE X B W b fb):SE X B W (.BinOp a .FloorDiv b pos) (bH wQ fa fb):=Bg Sq (Mt fun _ _ _=>bA.mpr rfl) ha hb
theorem qp(ha:SE X B W a fa)(hb:SE X B W b fb):SE X B W (.BinOp a .Mod b pos) (bH oM fa fb):=Bg abP (Mt fun _ _ _=>bA.mpr rfl) ha hb
theorem iM(ha:SE X B W a fa)(hb:SE X B W b fb):SE X B W (.BinOp a .Pow b pos) (bH mq fa fb):=Bg abQ (Mt fun _ _ _=>bA.mpr rfl) ha hb
noncomputable def YB:D->Rs D
 | .int i=>.ok (.int (-i))
 |_=>.no
theorem aci(ha:SE X B W a fa):SE X B W (.UnaryOp .USub a pos) (fun ρ=>(fa ρ).bind YB):=by
 refine PE.imp (aeC abR ha) fun σ H Q h=>?_;obtain⟨ρ,G,s,p⟩:=mZ (k:=fun _=>YB) h;refine⟨ρ,G,s,p.mono fun v H1 ⟨ρ1,G1,d,s1,r,q⟩=>?_⟩;cases d with
 |int i=>exact⟨i,bA.mp r,Post.ok s1 q (bA.mpr rfl)⟩
 |_=>exact q.elim
noncomputable def cM:D->D->Rs D
 | .int i,.int j=>.ok (.int (i + j))
 | .lst a,.lst b=>if a.length + b.length<=1000000 then .ok (.lst (a++b)) else .no
 |_,_=>.no
theorem sz6{n:Nat}(h:n<=1000000):n<=sizeLine:=et h (by rw[eM];decide)
end
section
variable{X:Cx}{K:ai}{B:Bs}{W:Wi}{σ:St}{G H:Hp}{ρ:aH}{a b:ah}{pos:Pos}{fa fb:aH->Rs D}
noncomputable def Ss(K:ai):R2:=fun x y H Q=>∃l b xs zs,x=.ref l/\y=.ref b/\pU K H l xs/\pU K H b zs/\xs.length + zs.length<=sizeLine/\∀p,H p=none->Q (.ref p) (upd H p (.lst (xs++zs)))
open PyProof.Rows in
theorem YC:tR X (i0 .Add) (Ss X.K):=by
 intro pins s σ H x y v u Q I rx ry h;obtain⟨l,b,xs,zs,rfl,rfl,hH,hB,hz,q⟩:=h;cases rx;cases ry;obtain⟨vs,r,pl,_⟩:=I.list hH;obtain⟨ws,r2,pl2,_⟩:=I.list hB;obtain⟨⟨cls,dd,data,sl⟩,ho,hc,n,hd⟩:=pl.isList;obtain⟨⟨cls2,dd2,data2,sl2⟩,ho2,hc2,n2,hd2⟩:=pl2.isList;simp only at hc hd hc2 hd2;subst hc hd hc2 hd2;have e:vs.toArray++ws.toArray=(vs++ws).toArray:=by simp
 have l1:=r.length;have l2:=r2.length;refine concat_meets ⟨_,ho,rfl⟩ ⟨_,ho2,rfl⟩ noFill_list_add seq_list_add PySem.F.slot_list_add PySem.F.entry_list_add (PySem.F.args_list_add_2 _ _) (list_addW l b vs.toArray ws.toArray n n2 dd dd2 sl sl2 (by simp only[cE];lia)) ⟨ho,ho2,?_⟩;rw[e];exact⟨.ref _,_,I.aeO (t':=s.toks) (r.append r2) (by rw[dE];lia),rfl,q _ I.fresh⟩
theorem YD:tR X (i0 .Add) (fun x y H Q=>Yb (fun i j=>V.int (i + j)) x y H Q∨Ss X.K x y H Q):=abM.or YC
theorem Sv:Ms K (fun x y H Q=>Yb (fun i j=>V.int (i + j)) x y H Q∨Ss K x y H Q) cM:=by
 intro B W σ ρ G H x y v u Q s rx ry p;cases x with
 |int i =>
  cases y with
  |int j=>exact .inl ⟨i,j,bA.mp rx,bA.mp ry,Post.ok s p (bA.mpr rfl)⟩
  |_=>exact p.elim
 |lst ds =>
  cases y with
  |lst es =>
   simp only[cM]at p;by_cases hl:ds.length + es.length<=1000000
   ·rw[if_pos hl]at p;obtain⟨a,vs,rfl,q,r⟩:=bJ.mp rx;obtain⟨b,us,rfl,q',r'⟩:=bJ.mp ry;refine .inr ⟨a,b,vs,us,rfl,rfl,s.en.gh.seq q,s.en.gh.seq q',by rw[<- r.length,<- r'.length];exact sz6 hl,fun c hc=>?_⟩;have x:=pC (xs:=vs++us) s.en.gh s.en.tp hc;exact p _ _ _ x (bJ.mpr ⟨c,vs++us,rfl,.of aW,(r.append r').mono x.gg⟩)
   ·rw[if_neg hl]at p;exact p.elim
  |_=>exact p.elim
 |_=>cases y <;> exact p.elim
theorem cW(ha:SE X B W a fa)(hb:SE X B W b fb):SE X B W (.BinOp a .Add b pos) (bH cM fa fb):=Bg YD Sv ha hb
noncomputable def toI:D->Rs Int
 | .int i=>.ok i
 |_=>.no
noncomputable def Ah(xs:List D)(lo hi:Option Int):List D:=(xs.drop (HT.FN xs.length 0 lo)).take (HT.FN xs.length xs.length hi - HT.FN xs.length 0 lo)
theorem Sw{ds:List D}{vs:List V}{lo hi:Option Int}(r:bF K G ds vs):bF K G (Ah ds lo hi) (Jv vs lo hi):=by unfold Ah Jv;rw[r.length];exact(r.drop _).take _
noncomputable def gSl(lo hi:Option Int):D->Rs D
 | .lst ds=>.ok (.lst (Ah ds lo hi))
 |_=>.no
noncomputable def aeQ(W:Wi)(σ:St)(G H:Hp)(r:Rs (Option Int))(Q:Option Int->Hp->Prop):Prop :=
 match r with
 | .ok b=>∀H' G',Ext G H G' H'->Q b H'
 | .ex c n=>∀H' G',Ext G H G' H'->W c n σ H'
 | .no=>False
noncomputable def tO(K:ai)(B:Bs)(W:Wi)(f:aH->Rs (Option Int)):TO:=fun σ H Q=>∃ρ G,SR K B σ H ρ G/\aeQ W σ G H (f ρ) Q
noncomputable def SO(X:Cx)(B:Bs)(W:Wi)(e:Option ah)(f:aH->Rs (Option Int)):Prop:=PO X e (tO X.K B W f)
noncomputable def acj:aH->Rs (Option Int):=fun _=>.ok none
noncomputable def fP(f:aH->Rs D):aH->Rs (Option Int):=fun ρ=>(f ρ).bind fun d=>(toI d).bind fun i=>.ok (some i)
theorem PO.imp{e:Option ah}{t t':TO}(h:PO X e t)(i:∀σ H Q,t' σ H Q->t σ H Q):PO X e t':=fun pins s σ H Q I q=>h pins s σ H Q I (i σ H Q q)
theorem Mv{e:ah}{f:aH->Rs D}(h:SE X B W e f):SO X B W (some e) (fP f):=by
 refine PO.imp (Yo h) fun σ H Q ⟨ρ,G,s,p⟩=>⟨ρ,G,s,?_⟩
 unfold fP at p;cases e1:f ρ with
 |ok d =>
  rw[e1]at p;cases d with
  |int i=>exact fun w H' G' e r'=>⟨i,bA.mp r',p H' G' e⟩
  |_=>exact p.elim
 |ex c n=>rw[e1]at p;exact p
 |no=>rw[e1]at p;exact p
noncomputable def fSl(fe:aH->Rs D)(fl fh:aH->Rs (Option Int)):aH->Rs D:=fun ρ=>(fe ρ).bind fun x=>(fl ρ).bind fun l=>(fh ρ).bind fun h=>gSl l h x
theorem acn{x:D}{v:V}{l h:Option Int}{Q:VK}(s:SR K B σ H ρ G)(r:Rep K G x v)(p:Post K W σ G H (gSl l h x) Q):aeN K v l h H Q:=by
 cases x with
 |lst ds =>
  obtain⟨a,vs,rfl,q,rr⟩:=bJ.mp r;refine⟨a,vs,rfl,s.en.gh.seq q,fun c hc=>?_⟩;have x:=pC (xs:=Jv vs l h) s.en.gh s.en.tp hc;exact p _ _ _ x (bJ.mpr ⟨c,_,rfl,.of aW,(Sw rr).mono x.gg⟩)
 |_=>exact p.elim
theorem Sx{e:ah}{lo hi:Option ah}{p2:Pos}{fe:aH->Rs D}{fl fh:aH->Rs (Option Int)}(he:SE X B W e fe)(hl:SO X B W lo fl)(hh:SO X B W hi fh) :
  SE X B W (.Subscript e (.Slice lo hi none p2) pos) (fSl fe fl fh):=by
 refine PE.imp (RM Yt he hl hh) fun σ H Q h=>?_;obtain⟨ρ,G,s,p⟩:=mZ (k:=fun ρ x=>(fl ρ).bind fun l=>(fh ρ).bind fun h=>gSl l h x) h;refine⟨ρ,G,s,p.mono fun v H1 ⟨ρ1,G1,d,s1,r,q⟩=>⟨ρ1,G1,s1,?_⟩⟩;cases e1:fl ρ1 with
 |ok l =>
  rw[e1]at q;intro H2 G2 x2;have q':Post X.K W σ G1 H1 ((fh ρ1).bind fun h=>gSl l h d) Q:=q;refine⟨ρ1,G2,s1.ext x2,?_⟩;cases e2:fh ρ1 with
  |ok h =>
   rw[e2]at q';exact fun H3 G3 x3=>acn ((s1.ext x2).ext x3) ((r.mono x2.gg).mono x3.gg) (Post.ext (x2.trans x3) q')
  |ex c n=>rw[e2]at q';exact fun H3 G3 x3=>q' H3 G3 (x2.trans x3)
  |no=>rw[e2]at q';exact q'
 |ex c n=>rw[e1]at q;exact q
 |no=>rw[e1]at q;exact q
variable{x:Str}{p:Pos}{e:ah}{es:List ah}{id T:String}{r:List V->Hp->VK->Prop}{g:List D->Rs D}{fs:aH->Rs (List D)}
theorem mz(hc:gj X (.builtin id) r) (hd:qm X.K r g) (hg:Gl X x) (hm:X.mg x=none) (hv:gT x=some (.builtin id)) (ha:SA X B W (e::es) fs) (hn:x≠"__name__":=by decide) (hdb:uN x:=by decide)
  (he:bg (e::es) X.env=(false,aS e X.env)::bg es X.env:=by rfl) (hpl:(dt pos (bg es X.env)).any (·.1)=false:=by rfl):SE X B W (.Call (.Name x p) (e::es) [] pos) (fA fs g) :=
 PE.imp (ql hc hg hm hv ha hn hdb he hpl) fun _ _ _ h=>Mu hd h
theorem PN(hc:gj X (.type T) r) (hd:qm X.K r g) (hg:Gl X x) (hm:X.mg x=none) (hv:gT x=some (.type T)) (ha:SA X B W (e::es) fs) (hn:x≠"__name__":=by decide) (hdb:uN x:=by decide)
  (he:bg (e::es) X.env=(false,aS e X.env)::bg es X.env:=by rfl) (hpl:(dt pos (bg es X.env)).any (·.1)=false:=by rfl):SE X B W (.Call (.Name x p) (e::es) [] pos) (fA fs g) :=
 PE.imp (Bf hc hg hm hv ha hn hdb he hpl) fun _ _ _ h=>Mu hd h
noncomputable def vd:List D->Rs D
 | [.lst ds]=>.ok (.int ds.length)
 | [.tup ds]=>.ok (.int ds.length)
 |_=>.no
theorem aco:qm K (fun xs H Q=>∃p ys,xs=[.ref p]/\(pU K H p ys∨jT K H p ys)/\Q (.int ys.length) H) vd:=by
 intro B W σ ρ G H ds vs Q s r p
 match ds,p with
 | [.lst ds],p =>
  obtain⟨v,vs',rfl,r1,r2⟩:=aO.mp r;obtain⟨a,us,rfl,q,rr⟩:=bJ.mp r1;rw[bf.mp r2];refine⟨a,us,rfl,.inl (s.en.gh.seq q),Post.ok s p ?_⟩;rw[<- rr.length];exact bA.mpr rfl
 | [.tup ds],p =>
  obtain⟨v,vs',rfl,r1,r2⟩:=aO.mp r;obtain⟨a,us,rfl,q,rr⟩:=bR.mp r1;rw[bf.mp r2];refine⟨a,us,rfl,.inr (Same.cV s.en.gh q),Post.ok s p ?_⟩;rw[<- rr.length];exact bA.mpr rfl
 | [],p=>exact p.elim
 | [.non],p=>exact p.elim
 | [.bl _],p=>exact p.elim
 | [.int _],p=>exact p.elim
 | [.str _],p=>exact p.elim
 | [.su _ _],p=>exact p.elim
 | [.sy _ _],p=>exact p.elim
 | [.fn _],p=>exact p.elim
 | [.obj _ _ _],p=>exact p.elim
 |_::_::_,p=>exact(by simp only[vd]at p;exact p.elim)
theorem yL(hm:X.mg "len"=none) (ha:SE X B W e fa) (hg:Gl X "len":=by rfl) (he:bg [e] X.env=[(false,aS e X.env)]:=by rfl):SE X B W (.Call (.Name "len" p) [e] [] pos) (fA (ak fa aZ) vd) :=
 mz CQ aco hg hm PySem.boot_len (aq ha aQ he)  (by decide) (by decide) he rfl
noncomputable def mC:List D->Rs D
 | [.lst ds]=>.ok (.tup ds)
 | [.tup ds]=>.ok (.tup ds)
 |_=>.no
theorem Sy:qm K (fun xs H Q=>∃p ys,xs=[.ref p]/\((pU K H p ys/\∀l,H l=none->Q (.ref l) (upd H l (.tup ys)))∨(jT K H p ys/\Q (.ref p) H))) mC:=by
 intro B W σ ρ G H ds vs Q s r p
 match ds,p with
 | [.lst ds],p =>
  obtain⟨v,vs',rfl,r1,r2⟩:=aO.mp r;obtain⟨a,us,rfl,q,rr⟩:=bJ.mp r1;rw[bf.mp r2];refine⟨a,us,rfl,.inl ⟨s.en.gh.seq q,fun c hc=>?_⟩⟩;have x:=tY (xs:=us) s.en.gh s.en.tp hc;exact p _ _ _ x (bR.mpr ⟨c,us,rfl,.of aW,rr.mono x.gg⟩)
 | [.tup ds],p =>
  obtain⟨v,vs',rfl,r1,r2⟩:=aO.mp r;obtain⟨a,us,rfl,q,rr⟩:=bR.mp r1;rw[bf.mp r2];exact⟨a,us,rfl,.inr ⟨Same.cV s.en.gh q,Post.ok s p r1⟩⟩
 | [],p=>exact p.elim
 | [.non],p=>exact p.elim
 | [.bl _],p=>exact p.elim
 | [.int _],p=>exact p.elim
 | [.str _],p=>exact p.elim
 | [.su _ _],p=>exact p.elim
 | [.sy _ _],p=>exact p.elim
 | [.fn _],p=>exact p.elim
 | [.obj _ _ _],p=>exact p.elim
 |_::_::_,p=>exact(by simp only[mC]at p;exact p.elim)
open PyProof.Rows in
theorem Di:gj X (.builtin "divmod") (fun xs H Q=>∃i j,xs=[.int i,.int j]/\CDB i j/\∀p,H p=none->Q (.ref p) (upd H p (.tup [.int (i / j),.int (i % j)]))):=by intro pins s σ H xs us Q I r h;obtain⟨i,j,rfl,hc,q⟩:=h;have h1:=hc.1;obtain⟨u,w',rfl,⟨t,rfl⟩,⟨t',rfl⟩⟩:=Mi r;refine divmod_int (by lia) ?_ (.inl hc.py);rw[Int.fdiv_eq_ediv_of_nonneg i (by lia),Int.fmod_eq_emod_of_nonneg i (by lia)];have hn:H s.heap.objs.size=none:=I.hok.fresh (bz _);refine⟨.ref s.heap.objs.size,_,?_,rfl,q _ hn⟩;refine I.laid (fun b o e=>bS _ e) (bz _) ⟨by simp only[cq,eI];rw[eM];decide,[.int (i / j) s.toks,.int (i % j) (s.toks + 1)],.cons ⟨_,rfl⟩ (.cons ⟨_,rfl⟩ .nil),?_⟩;exact⟨_,cy s.heap rfl,rfl,0,rfl⟩
noncomputable def Bj:List D->Rs D
 | [.int i,.int j]=>if CDB i j then .ok (.tup [.int (i / j),.int (i % j)]) else .no
 |_=>.no
theorem aeR:qm K (fun xs H Q=>∃i j,xs=[.int i,.int j]/\CDB i j/\∀p,H p=none->Q (.ref p) (upd H p (.tup [.int (i / j),.int (i % j)]))) Bj:=by
 intro B W σ ρ G H ds vs Q s r p;unfold Bj at p;split at p
 ·rename_i i j;obtain⟨v,vs',rfl,r1,r2⟩:=aO.mp r;obtain⟨v2,vs'',rfl,r3,r4⟩:=aO.mp r2;rw[bA.mp r1,bA.mp r3,bf.mp r4];by_cases hc:CDB i j
  ·rw[if_pos hc]at p;refine⟨i,j,rfl,hc,fun c hc=>?_⟩;have x:=tY (xs:=[.int (i / j),.int (i % j)]) s.en.gh s.en.tp hc;exact p _ _ _ x (bR.mpr ⟨c,_,rfl,.of aW,aO.mpr ⟨_,_,rfl,bA.mpr rfl,.one (bA.mpr rfl)⟩⟩)
  ·rw[if_neg hc]at p;exact p.elim
 ·exact p.elim
end
inductive Ou where
 |nx (ρ:aH)|rt (d:D)|bk (ρ:aH)|ct (ρ:aH)|ex (c:Str) (n:Int) (ρ:aH)|no|rx (d:D) (ρ:aH)|rl (ds:List D)
noncomputable def cP(K:ai)(B:Bs)(W:Wi)(G:Hp)(o:Ou)(De:Ends):Prop :=
 match o with
 | .nx ρ'=>∀σ' H' G',SR K B σ' H' ρ' G'->Same G G'->De.nx σ' H'
 | .bk ρ'=>∀σ' H' G',SR K B σ' H' ρ' G'->Same G G'->De.bk σ' H'
 | .ct ρ'=>∀σ' H' G',SR K B σ' H' ρ' G'->Same G G'->De.ct σ' H'
 | .rt d=>∀v H' G',Ext B.1 B.2 G' H'->Same G G'->Rep K G' d v->De.rt v H'
 | .ex c n ρ'=>∀σ' H' G',SR K B σ' H' ρ' G'->Same G G'->W c n σ' H'
 | .no=>False
 | .rx d ρ'=>∀v σ' H' G',SR K B σ' H' ρ' G'->Same G G'->Rep K G' d v->De.rt v H'
 | .rl ds=>∀a ws H' G',Ext B.1 B.2 G' H'->Same G G'->G' a=none->B.2 a=none->H' a=some (.lst ws)->bF K G' ds ws->De.rt (.ref a) H'
noncomputable def tS(K:ai)(B:Bs)(W:Wi)(g:aH->Ou):TS:=fun De σ H=>∃ρ G,SR K B σ H ρ G/\cP K B W G (g ρ) De
noncomputable def SS(X:Cx)(B:Bs)(W:Wi)(st:bj)(g:aH->Ou):Prop:=PS X st (tS X.K B W g)
noncomputable def rA(X:Cx)(B:Bs)(W:Wi)(st:List bj)(g:aH->Ou):Prop:=FJ X st (tS X.K B W g)
noncomputable def SJ(o:Ou)(k:aH->Ou):Ou:=match o with
 | .nx ρ=>k ρ
 |o=>o
noncomputable def oR{α:Type}(r:Rs α)(ρ:aH)(k:α->Ou):Ou:=match r with
 | .ok a=>k a
 | .ex c n=>.ex c n ρ
 | .no=>.no
section
variable{X:Cx}{K:ai}{B:Bs}{W:Wi}{σ:St}{G G' H:Hp}{ρ:aH}{De De':Ends}
theorem cP.same{o:Ou}(h:cP K B W G o De)(e:Same G G'):cP K B W G' o De:=by
 cases o with
 |nx ρ'=>exact fun σ' H' G'' s q=>h σ' H' G'' s (e.trans q)
 |bk ρ'=>exact fun σ' H' G'' s q=>h σ' H' G'' s (e.trans q)
 |ct ρ'=>exact fun σ' H' G'' s q=>h σ' H' G'' s (e.trans q)
 |rt d=>exact fun v H' G'' x q=>h v H' G'' x (e.trans q)
 |ex c n ρ'=>exact fun σ' H' G'' s q=>h σ' H' G'' s (e.trans q)
 |no=>exact h
 |rx d ρ'=>exact fun v σ' H' G'' s q=>h v σ' H' G'' s (e.trans q)
 |rl ds=>exact fun a ws H' G'' s q=>h a ws H' G'' s (e.trans q)
theorem jU{r:Rs D}{k:D->Ou}{Q:VK}(s:SR K B σ H ρ G)(p:cP K B W G (oR r ρ k) De)(h:∀d v H' G',r=.ok d->Ext G H G' H'->Rep K G' d v->cP K B W G' (k d) De->Q v H'):Post K W σ G H r Q:=by
 cases r with
 |ok d=>exact fun v H' G' e r=>h d v H' G' rfl e r (cP.same p e.gg)
 |ex c n=>exact fun H' G' e=>p σ H' G' (s.ext e) e.gg
 |no=>exact p
theorem acp:rA X B W [] .nx:=FJ.imp Yh fun De σ H ⟨ρ,G,s,p⟩=>p σ H G s (.refl _)
theorem YF{st:bj}{cj:List bj}{g k:aH->Ou}(h1:SS X B W st g)(h2:rA X B W cj k):rA X B W (st::cj) (fun ρ=>SJ (g ρ) k):=by
 refine FJ.imp (tW h1 h2) fun De σ H ⟨ρ,G,s,p⟩=>⟨ρ,G,s,?_⟩
 dsimp only at p;cases e:g ρ with
 |nx ρ'=>rw[e]at p;exact fun σ' H' G' s' q=>⟨ρ',G',s',cP.same (show cP X.K B W G (k ρ') De from p) q⟩
 |bk ρ'=>rw[e]at p;exact p
 |ct ρ'=>rw[e]at p;exact p
 |rt d=>rw[e]at p;exact p
 |ex c n ρ'=>rw[e]at p;exact p
 |no=>rw[e]at p;exact p
 |rx d ρ'=>rw[e]at p;exact p
 |rl ds=>rw[e]at p;exact p
theorem acq{st:bj}{g:aH->Ou}(h1:SS X B W st g):rA X B W [st] g:=Lz h1
theorem SN{st:bj}:SS X B W st (fun _=>.no):=PS.imp Ry fun De σ H ⟨ρ,G,s,p⟩=>p
theorem PX{st:List bj}:rA X B W st (fun _=>.no):=FJ.imp Pb fun De σ H ⟨ρ,G,s,p⟩=>p
theorem acr{e:ah}{pos}{f:aH->Rs D}(h:SE X B W e f):SS X B W (.Return (some e) pos) (fun ρ=>oR (f ρ) ρ .rt) :=
 PS.imp (abH h) fun De σ H ⟨ρ,G,s,p⟩=>⟨ρ,G,s,jU s p fun d v H' G' _ e r q=>q v H' G' (s.en.trans e) (.refl _) r⟩
theorem YG{e:ah}{pos:Pos}{f:aH->Rs D}(h:SE X B W e f)(hs:eW e none pos.line X.env=pure false:=by rfl):SS X B W (.Expr e pos) (fun ρ=>oR (f ρ) ρ fun _=>.nx ρ) :=
 PS.imp (Cz h hs) fun De σ H ⟨ρ,G,s,p⟩=>⟨ρ,G,s,jU s p fun d v H' G' _ e r q=>q σ H' G' (s.ext e) (.refl _)⟩
theorem aeS{c:ah}{a b:List bj}{pos:Pos}{fc:aH->Rs Bool}{ga gb:aH->Ou}(hc:ST X B W c fc)(ha:rA X B W a ga)(hb:rA X B W b gb):SS X B W (.If c a b pos) (fun ρ=>oR (fc ρ) ρ fun x=>if x=true then ga ρ else gb ρ):=by
 refine PS.imp (aer hc ha hb) fun De σ H ⟨ρ,G,s,p⟩=>⟨ρ,G,s,?_⟩
 dsimp only at p;cases e:fc ρ with
 |ok x =>
  rw[e]at p;intro H' G' ee;have p':cP X.K B W G (if x=true then ga ρ else gb ρ) De:=p;cases x with
  |true=>rw[if_pos rfl]at p' ⊢;exact⟨ρ,G',s.ext ee,p'.same ee.gg⟩
  |false=>rw[if_neg (by simp)]at p' ⊢;exact⟨ρ,G',s.ext ee,p'.same ee.gg⟩
 |ex c n=>rw[e]at p;exact fun H' G' ee=>p σ H' G' (s.ext ee) ee.gg
 |no=>rw[e]at p;exact p
noncomputable abbrev Tg:=D->aH->Option aH
noncomputable def tG(K:ai)(B:Bs)(h:Tg):TG:=fun v σ H Q=>∃ρ G d,SR K B σ H ρ G/\Rep K G d v/\∃ρ',h d ρ=some ρ'/\∀σ',SR K B σ' H ρ' G->Q σ' H
noncomputable def tGs(K:ai)(B:Bs)(h:List D->aH->Option aH):Yi:=fun vs σ H Q=>∃ρ G ds,SR K B σ H ρ G/\bF K G ds vs/\∃ρ',h ds ρ=some ρ'/\∀σ',SR K B σ' H ρ' G->Q σ' H
noncomputable def SG(X:Cx)(B:Bs)(tg:ah)(h:Tg):Prop:=PG X tg (tG X.K B h)
noncomputable def SGs(X:Cx)(B:Bs)(tg:List ah)(h:List D->aH->Option aH):Prop:=XR X tg (tGs X.K B h)
theorem PG.imp{e:ah}{t t':TG}(h:PG X e t)(i:∀v σ H Q,t' v σ H Q->t v σ H Q):PG X e t':=fun pins s σ H v u Q I r q=>h pins s σ H v u Q I r (i v σ H Q q)
theorem XR.imp{e:List ah}{t t':Yi}(h:XR X e t)(i:∀v σ H Q,t' v σ H Q->t v σ H Q):XR X e t':=fun pins s σ H v u Q I r q=>h pins s σ H v u Q I r (i v σ H Q q)
noncomputable def aR(i:Nat):Tg:=fun d ρ=>some (ρ.set i (.fz d))
noncomputable def jE:List D->aH->Option aH:=fun ds ρ=>match ds with|[]=>some ρ|_=>none
noncomputable def bQ(h:Tg)(k:List D->aH->Option aH):List D->aH->Option aH:=fun ds ρ=>match ds with|d::ds=>(h d ρ).bind (k ds)|[]=>none
noncomputable def ji(n:Nat)(k:List D->aH->Option aH):Tg:=fun d ρ=>match d with|.tup ds=>if ds.length=n then k ds ρ else none|_=>none
theorem YH{i:Nat}{x:Str}{pos:Pos}(hN:X.N.Nodup)(hi:X.N[i]?=some x)(hx:FT X.env.scope x)(hf:X.fn x=true∨X.env.scope.names.lookup x=some .local:=by first|exact .inl rfl|exact .inr rfl|assumption):SG X B (.Name x pos) (aR i) :=
 PG.imp (LK hN hi hx hf) fun v σ H Q ⟨ρ,G,d,s,r,ρ',e,q⟩=>by cases e;exact q _ (s.set r)
theorem dh:SGs X B [] jE:=XR.imp Yk fun v σ H Q ⟨ρ,G,ds,s,r,ρ',e,q⟩=>by
 cases ds with
 |nil=>cases e;exact⟨bf.mp r,q _ s⟩
 |cons d ds=>cases e
theorem bB{e:ah}{es:List ah}{h:Tg}{k:List D->aH->Option aH}(h1:SG X B e h)(h2:SGs X B es k)(hs:(fN (e::es) X.env).map (·.2)=assign e X.env::(fN es X.env).map (·.2):=by rfl):SGs X B (e::es) (bQ h k) :=
 XR.imp (Rz h1 h2 hs) fun v σ H Q ⟨ρ,G,ds,s,r,ρ',e,q⟩=>by
  cases ds with
  |nil=>cases e
  |cons d ds =>
   obtain⟨w,ws,rfl,r1,r2⟩:=aO.mp r;unfold bQ at e;dsimp only at e;cases e1:h d ρ with
   |none=>rw[e1]at e;cases e
   |some ρ1 =>
    rw[e1]at e;exact⟨w,ws,rfl,ρ,G,d,s,r1,ρ1,e1,fun σ1 s1=>⟨ρ1,G,ds,s1,r2,ρ',e,q⟩⟩
theorem fQ{es:List ah}{k:Nat}{pos:Pos}{n:Nat}{h:List D->aH->Option aH}(hc:X.calm=true)(hh:SGs X B es h)
  (hn:(fN es X.env).length=n:=by rfl) (hst:(fN es X.env).findIdx? (·.1)=none:=by rfl):SG X B (.Tuple es k pos) (ji n h) :=
 PG.imp (abI hc hh hn hst) fun v σ H Q ⟨ρ,G,d,s,r,ρ',e,q⟩=>by
  cases d with
  |tup ds =>
   unfold ji at e;dsimp only at e;by_cases hl:ds.length=n
   ·simp only[if_pos hl]at e;obtain⟨a,vs,rfl,q1,rr⟩:=bR.mp r;exact⟨a,vs,rfl,Same.cV s.en.gh q1,by rw[<- rr.length];exact hl,ρ,G,ds,s,rr,ρ',e,q⟩
   ·simp only[if_neg hl]at e;cases e
  |_=>cases e
noncomputable def oO(o:Option aH):Ou:=match o with|some ρ=>.nx ρ|none=>.no
theorem acs{tg e:ah}{pos:Pos}{f:aH->Rs D}{h:Tg}(he:SE X B W e f)(hg:SG X B tg h)(hs:mf [tg] e pos.line X.env=pure false:=by rfl)(hw:mh [tg] e X.env=pure none:=by rfl)
  (h1:(fN [tg] X.env).map (·.2)=[assign tg X.env]:=by rfl):SS X B W (.Assign [tg] e pos) (fun ρ=>oR (f ρ) ρ fun d=>oO (h d ρ)) :=
 PS.imp (Jo he hg hs hw h1) fun De σ H ⟨ρ,G,s,p⟩=>⟨ρ,G,s,jU s p fun d v H' G' _ e r q=>by
  cases e1:h d ρ with
  |none=>rw[e1]at q;exact q.elim
  |some ρ'=>rw[e1]at q;exact⟨ρ,G',d,s.ext e,r,ρ',e1,fun σ' s'=>q σ' H' G' s' (.refl _)⟩⟩
theorem acu{i:Nat}{x:Str}{e:ah}{pos pos':Pos}{f:aH->Rs D}(hN:X.N.Nodup)(hi:X.N[i]?=some x)(hx:FT X.env.scope x)(he:SE X B W e f)(hs:eW e (some (.Name x pos')) pos.line X.env=pure false:=by rfl)(hf:X.fn x=true∨X.env.scope.names.lookup x=some .local:=by first|exact .inl rfl|exact .inr rfl|assumption) :
  SS X B W (.Assign [.Name x pos'] e pos) (fun ρ=>oR (f ρ) ρ fun d=>.nx (ρ.set i (.fz d))) :=
 PS.imp (CG hN hi hx he hs hf) fun De σ H ⟨ρ,G,s,p⟩=>⟨ρ,G,s,jU s p fun d v H' G' _ e r q=>q _ H' G' ((s.ext e).set r) (.refl _)⟩
theorem SR.SQ(h:SR K B σ H ρ G){i:Nat}{z:Sl}{o:HO}{p:ae}(w:z.own=true)(r:sE K G p z o)(hp:H p=none)(hz:∀ds,z≠.op ds:=by intro _ h;cases h):SR K B (σ.set i (some (.ref p))) (upd H p o) (ρ.set i z) G:=by
 have x:=CV (o:=o) h.en.gh h.en.tp (fun xs e=>by subst e;exact r.tup) hp;have h':=h.ext x;have wR:∀{j:Nat}{y:Sl},(ρ.set i z)[j]?=some y->(i=j/\y=z/\i < ρ.length)∨(i≠j/\ρ[j]?=some y):=fun {j y} q=>by
  by_cases e:i=j
  ·subst e;have hl:i < ρ.length:=by have:=(df.mp q).1;simpa using this
   rw[di hl]at q;cases q;exact .inl ⟨rfl,rfl,hl⟩
  ·rw[cv e]at q;exact .inr ⟨e,q⟩
 refine⟨h'.en,by simp[h.len],fun j d q=>?_,fun j y q wy=>?_,fun j k y y' a q1 w1 q2 w2 q3 q4=>?_,fun j ds a q1 q2=>?_,h'.co⟩
 ·rcases wR q with ⟨_,e,_⟩|⟨e,q⟩
  ·rw[<- e]at w;cases w
  ·rw[cv e];exact h'.fz j d q
 ·rcases wR q with ⟨e,e2,hl⟩|⟨e,q⟩
  ·subst e;subst e2;exact⟨p,o,di (by rw[<- h.len];exact hl),aW,h.en.gh.free hp,h.en.hh.free hp,r⟩
  ·rw[cv e];exact h'.own j y q wy
 ·have fresh:∀{l:Nat}{y:Sl},ρ[l]?=some y->y.own=true->σ[l]?≠some (some (.ref p)):=fun {l y} q wy z=>by
   obtain⟨a,vs',h1,h2,_⟩:=h.own l y q wy;rw[h1]at z;have:a=p:=by injection z with z;injection z with z;injection z
   rw[this,hp]at h2;cases h2
  rcases wR q1 with ⟨e1,_,l1⟩|⟨n1,z1⟩
  ·rcases wR q2 with ⟨e2,_⟩|⟨n2,z2⟩
   ·exact e1.symm.trans e2
   ·subst e1;rw[di (by rw[<- h.len];exact l1)]at q3;have:a=p:=by injection q3 with z;injection z with z;injection z with z;exact z.symm
    subst this;rw[cv n2]at q4;exact(fresh z2 w2 q4).elim
  ·rcases wR q2 with ⟨e2,_,l2⟩|⟨n2,z2⟩
   ·subst e2;rw[di (by rw[<- h.len];exact l2)]at q4;have:a=p:=by injection q4 with z;injection z with z;injection z with z;exact z.symm
    subst this;rw[cv n1]at q3;exact(fresh z1 w1 q3).elim
   ·rw[cv n1]at q3;rw[cv n2]at q4;exact h.ap j k y y' a z1 w1 z2 w2 q3 q4
 ·rcases wR q1 with ⟨_,e,_⟩|⟨e,q⟩
  ·exact absurd e.symm (hz ds)
  ·rw[cv e]at q2;exact h.tie j ds a q q2
theorem SR.aeT(h:SR K B σ H ρ G){i:Nat}{ds:List D}{vs:List V}{p:ae}(r:bF K G ds vs)(hp:H p=none):SR K B (σ.set i (some (.ref p))) (upd H p (.lst vs)) (ρ.set i (.ow ds)) G:=h.SQ rfl ⟨vs,rfl,r⟩ hp
theorem SR.Gn(h:SR K B σ H ρ G){i:Nat}{y z:Sl}{o:HO}{a:ae}(q:ρ[i]?=some y)(wy:y.own=true)(ha:σ[i]?=some (some (.ref a)))(wz:z.own=true)(r:sE K G a z o)(hz:∀ds,z=.op ds->∃es,y=.op es:=by intro _ h;cases h):SR K B σ (upd H a o) (ρ.set i z) G:=by
 obtain⟨a',o0,e1,h2,h3,h4,h5⟩:=h.own i y q wy;have ea:a'=a:=by rw[e1]at ha;injection ha with z;injection z with z;injection z
 subst ea;have hl:i < ρ.length:=(df.mp q).1;have wR:∀{j:Nat}{x:Sl},(ρ.set i z)[j]?=some x->(i=j/\x=z)∨(i≠j/\ρ[j]?=some x):=fun {j x} q=>by
  by_cases e:i=j
  ·subst e;rw[di hl]at q;cases q;exact .inl ⟨rfl,rfl⟩
  ·rw[cv e]at q;exact .inr ⟨e,q⟩
 have ne:∀b o,G b=some o->b≠a':=fun b o z w=>by rw[w,h3]at z;cases z
 refine⟨⟨h.en.gg,fun b o z=>?_,fun b o z=>?_,fun b xs z=>?_,h.en.nw⟩,by simp[h.len],fun j d z'=>?_,fun j x z' wx=>?_,fun j k x x' c z1 w1 z2 w2 z3 z4=>?_,fun j ds c z1 z2=>?_,h.co.upd h2 h5.tab⟩
 ·rw[aK (aP z h4)];exact h.en.hh b o z
 ·rw[aK (ne b o z)];exact h.en.gh b o z
 ·by_cases w:b=a'
  ·subst w;rw[aW]at z;cases z;exact r.tup.elim
  ·rw[aK w]at z;exact h.en.tp b xs z
 ·rcases wR z' with ⟨_,e⟩|⟨_,z'⟩
  ·rw[<- e]at wz;cases wz
  ·exact h.fz j d z'
 ·rcases wR z' with ⟨e,e2⟩|⟨e,z'⟩
  ·subst e;subst e2;exact⟨a',o,ha,aW,h3,h4,r⟩
  ·obtain⟨b,us,w1,w2,w3,w4,w5⟩:=h.own j x z' wx;have hne:b≠a':=fun w=>by subst w;exact e (h.ap i j y x b q wy z' wx ha w1)
   exact⟨b,us,w1,by rw[aK hne];exact w2,w3,w4,w5⟩
 ·rcases wR z1 with ⟨e1,_⟩|⟨_,z1⟩ <;> rcases wR z2 with ⟨e2,_⟩|⟨_,z2⟩
  ·exact e1.symm.trans e2
  ·subst e1;exact h.ap i k y x' c q wy z2 w2 z3 z4
  ·subst e2;exact h.ap j i x y c z1 w1 q wy z3 z4
  ·exact h.ap j k x x' c z1 w1 z2 w2 z3 z4
 ·rcases wR z1 with ⟨e1,e2⟩|⟨_,z1⟩
  ·subst e1;obtain⟨es,e3⟩:=hz ds e2.symm;rw[e3]at q;exact h.tie i es c q z2
  ·exact h.tie j ds c z1 z2
theorem SR.write(h:SR K B σ H ρ G){i:Nat}{ds es:List D}{vs:List V}{a:ae}(q:ρ[i]?=some (.ow ds))(ha:σ[i]?=some (some (.ref a)))(r:bF K G es vs):SR K B σ (upd H a (.lst vs)) (ρ.set i (.ow es)) G:=h.Gn q rfl ha rfl ⟨vs,rfl,r⟩
noncomputable def yt(i:Nat)(ρ:aH):aH:=match ρ[i]? with|some (.ow ds)=>ρ.set i (.fz (.lst ds))|_=>ρ
theorem SR.yt(h:SR K B σ H ρ G)(i:Nat):∃G',Same G G'/\SR K B σ H (yt i ρ) G':=by
 unfold Vl.yt;split
 ·rename_i ds q;obtain⟨a,vs,e1,h2,h3,h4,h5⟩:=h.ow i ds q;have hl:i < ρ.length:=(df.mp q).1;have gg:Same G (upd G a (.lst vs)):=fun b o z=>by rw[aK (aP z h3)];exact z
  refine⟨upd G a (.lst vs),gg,⟨h.en.gg.trans gg,h.en.hh,fun b o z=>?_,fun b xs z=>?_,fun b o z w=>?_⟩,by simp[h.len],fun j d z=>?_,fun j fs z wz=>?_,fun j k fs gs c z1 w1 z2 w2 z3 z4=>?_,fun j es c z1 z2=>?_,h.co⟩
  ·by_cases w:b=a
   ·subst w;rw[aW]at z;cases z;exact h2
   ·rw[aK w]at z;exact h.en.gh b o z
  ·by_cases w:b=a
   ·subst w;rw[h2]at z;cases z
   ·rw[aK w];exact h.en.tp b xs z
  ·rw[aK (aP z h4)];exact h.en.nw b o z w
  ·by_cases e:i=j
   ·subst e;rw[di hl]at z;cases z;exact⟨_,e1,bJ.mpr ⟨a,vs,rfl,.of aW,h5.mono gg⟩⟩
   ·rw[cv e]at z;obtain⟨v,w1,w2⟩:=h.fz j d z;exact⟨v,w1,w2.mono gg⟩
  ·by_cases e:i=j
   ·subst e;rw[di hl]at z;cases z;cases wz
   ·rw[cv e]at z;obtain⟨b,us,w1,w2,w3,w4,w5⟩:=h.own j fs z wz;have hne:b≠a:=fun w=>by subst w;exact e (h.ap i j _ fs b q rfl z wz e1 w1)
    exact⟨b,us,w1,w2,by rw[aK hne];exact w3,w4,w5.mono gg⟩
  ·have nj:i≠j:=fun e=>by subst e;rw[di hl]at z1;cases z1;cases w1
   have nk:i≠k:=fun e=>by subst e;rw[di hl]at z2;cases z2;cases w2
   rw[cv nj]at z1;rw[cv nk]at z2;exact h.ap j k fs gs c z1 w1 z2 w2 z3 z4
  ·have nj:i≠j:=fun e=>by subst e;rw[di hl]at z1;cases z1
   rw[cv nj]at z1;exact h.tie j es c z1 z2
 ·exact⟨G,.refl _,h⟩
theorem YJ{st:List bj}{g:aH->Ou}(i:Nat)(h:rA X B W st g):rA X B W st (fun ρ=>g (yt i ρ)) :=
 FJ.imp h fun De σ H ⟨ρ,G,s,p⟩=>let ⟨G',gg,s'⟩:=s.yt i;⟨_,G',s',cP.same p gg⟩
theorem acv{i:Nat}{x:Str}{es:List ah}{pos pos' lp:Pos}{f:aH->Rs (List D)}(hN:X.N.Nodup)(hi:X.N[i]?=some x)(hx:FT X.env.scope x)(he:SA X B W es f)(hs:eW (.List es lp) (some (.Name x pos')) pos.line X.env=pure false:=by rfl)(hf:X.fn x=true∨X.env.scope.names.lookup x=some .local:=by first|exact .inl rfl|exact .inr rfl|assumption) :
  SS X B W (.Assign [.Name x pos'] (.List es lp) pos) (fun ρ=>oR (f ρ) ρ fun ds=>if ds.length<=1000 then .nx (ρ.set i (.ow ds)) else .no):=by
 refine PS.imp (CG hN hi hx (Jt he) hs hf) fun De σ H ⟨ρ,G,s,p⟩=>⟨ρ,G,s,?_⟩
 dsimp only at p;cases e:f ρ with
 |ok ds =>
  rw[e]at p;have p':cP X.K B W G (if ds.length<=1000 then .nx (ρ.set i (.ow ds)) else .no) De:=p;by_cases hl:ds.length<=1000
  ·rw[if_pos hl]at p';exact fun vs H' G' x r=>⟨by rw[<- r.length];exact yK hl,fun c hc=>p' _ _ G' ((s.ext x).aeT r hc) x.gg⟩
  ·rw[if_neg hl]at p';exact p'.elim
 |ex c n=>rw[e]at p;exact fun H' G' x=>p σ H' G' (s.ext x) x.gg
 |no=>rw[e]at p;exact p
theorem Qa{i:Nat}{x:Str}{e:ah}{pos p1 p2 cp:Pos}{f:aH->Rs D}(hv:PE X (.Name x p1) (FW i))(he:SE X B W e f)
  (hst:bg [e] X.env=[(false,aS e X.env)]) {pe:PE X (.Call (.Attribute (.Name x p1) "append" p2) [e] [] cp) (tBM X.K "list" Mj (FW i) (aaJ (tF X.K B W f) aeI))}
  (hs:eW (.Call (.Attribute (.Name x p1) "append" p2) [e] [] cp) none pos.line X.env=pure false:=by rfl) :
  SS X B W (.Expr (.Call (.Attribute (.Name x p1) "append" p2) [e] [] cp) pos) (fun ρ=>match ρ[i]? with|some (.ow ds)=>oR (f ρ) ρ fun d=>if ds.length < 1000000 then .nx (ρ.set i (.ow (ds++[d]))) else .no|_=>.no):=by
 refine PS.imp (Cz pe hs) fun De σ H fj=>?_;obtain⟨ρ,G,s,p⟩:=fj;dsimp only at p;cases q:ρ[i]? with
 |none=>rw[q]at p;exact p.elim
 |some z =>
  rw[q]at p;cases z with
  |no=>exact p.elim
  |fz d=>exact p.elim
  |od _=>exact p.elim
  |op _=>exact p.elim
  |ow ds =>
   obtain⟨a,vs,e1,h2,h3,h4,h5⟩:=s.ow i ds q;refine⟨_,e1,.inl ⟨rfl,vs,.of h2⟩,ρ,G,s,jU s p fun d v H' G' _ x r p'=>?_⟩;by_cases hl:ds.length < 1000000
   ·rw[if_pos hl]at p';have s':=s.ext x;refine⟨a,vs,v,rfl,rfl,x.hh _ _ h2,by rw[<- h5.length];exact dm hl (by rw[eM];decide),?_⟩;exact p' σ _ G' (s'.write q e1 ((h5.mono x.gg).append (.one r))) (.refl _)
   ·rw[if_neg hl]at p';exact p'.elim
end
noncomputable def fU(h:Tg)(gb:aH->Ou):List D->aH->Ou
 | [],ρ=>.nx ρ
 |d::ds,ρ=>match h d ρ with
  |none=>.no
  |some ρ1=>match gb ρ1 with
   | .nx ρ2=>fU h gb ds ρ2
   | .ct ρ2=>fU h gb ds ρ2
   | .bk ρ2=>.nx ρ2
   |o=>o
noncomputable def WF:Wi:=fun _ _ _ _=>False
section
variable{X:Cx}{K:ai}{B:Bs}{W:Wi}{σ:St}{G G' H:Hp}{ρ:aH}{De De':Ends}
theorem uc{h:Tg}{gb:aH->Ou}{d:D}{ds:List D}{v:V}{Pv:St->Hp->Prop}(s:SR K B σ H ρ G)(r:Rep K G d v)(p:cP K B W G (fU h gb (d::ds) ρ) De)
  (hP:∀σ' H' ρ' G',SR K B σ' H' ρ' G'->Same G G'->cP K B W G' (fU h gb ds ρ') De->Pv σ' H') :
  tG K B h v σ H fun σ2 H2=>tS K B W gb { De with nx:=Pv,ct:=Pv,bk:=De.nx } σ2 H2:=by
 unfold fU at p;cases e:h d ρ with
 |none=>rw[e]at p;exact p.elim
 |some ρ1 =>
  rw[e]at p;refine⟨ρ,G,d,s,r,ρ1,e,fun σ1 s1=>⟨ρ1,G,s1,?_⟩⟩;dsimp only at p;cases e2:gb ρ1 with
  |nx ρ2=>rw[e2]at p;exact fun σ' H' G' s' q=>hP σ' H' ρ2 G' s' q (cP.same p q)
  |ct ρ2=>rw[e2]at p;exact fun σ' H' G' s' q=>hP σ' H' ρ2 G' s' q (cP.same p q)
  |bk ρ2=>rw[e2]at p;exact p
  |rt d=>rw[e2]at p;exact p
  |ex c n ρ2=>rw[e2]at p;exact p
  |no=>rw[e2]at p;exact p
  |rx d ρ2=>rw[e2]at p;exact p
  |rl ds=>rw[e2]at p;exact p
noncomputable def yM(h:Tg)(gb:aH->Ou)(f:aH->Rs D):aH->Ou:=fun ρ=>oR (f ρ) ρ fun d=>match d with|.lst ds=>fU h gb ds ρ|_=>.no
noncomputable def yN(h:Tg)(gb:aH->Ou)(f:aH->Rs D):aH->Ou:=fun ρ=>oR (f ρ) ρ fun d=>match d with|.tup ds=>fU h gb ds ρ|_=>.no
noncomputable def wA(h:Tg)(gb:aH->Ou)(f:aH->Rs D):aH->Ou:=fun ρ=>oR (f ρ) ρ fun d=>match d with|.int n=>if-(2 ^ 62)<=n/\n < 2 ^ 62 then fU h gb ((cz n.toNat).map fun(i:Nat)=>.int i) ρ else .no|_=>.no
noncomputable def yO(h:Tg)(gb:aH->Ou)(fs:aH->Rs (List D)):aH->Ou:=fun ρ=>oR (fs ρ) ρ fun ds=>match ds with
 | [.int m,.int n]=>if (-(2 ^ 62)<=m/\m < 2 ^ 62/\-(2 ^ 62)<=n/\n < 2 ^ 62) then fU h gb ((cz (n - m).toNat).map fun(i:Nat)=>.int (m + i)) ρ else .no|_=>.no
theorem xU{tg iter:ah}{body:List bj}{pos:Pos}{f:aH->Rs D}{h:Tg}{gb:aH->Ou}(hp:kT (ax X.prog X.w) X.A X.env X.xe)(hc:X.calm=true)(hi:SE X B W iter f)(hg:SG X B tg h)(hb:rA X B W body gb)
  (hs:∀x,gc iter X.env x=pure x:=by intro _;rfl):SS X B W (.For tg iter body [] pos) (yM h gb f):=by
 refine PS.imp (uR hp hc (Ma hi) hg hb hs) fun De σ H fj=>?_;obtain⟨ρ,G,s,p⟩:=fj;refine⟨ρ,G,s,jU s p fun d v H1 G1 _ e r p1=>?_⟩;cases d with
 |lst ds =>
  obtain⟨a,vs,rfl,q,rr⟩:=bJ.mp r;refine⟨a,rfl,⟨vs,e.gh.seq q⟩,RD (fun i σ H=>∃ρ G,SR X.K B σ H ρ G/\pU X.K G a vs/\bF X.K G ds vs/\cP X.K B W G (fU h gb (ds.drop i) ρ) De) ⟨ρ,G1,s.ext e,q,rr,by simpa using p1⟩ (fun i σ H _ ⟨ρ,G,s,q,_⟩=>s.en.gh.seq q) ?_ ?_⟩
  ·rintro i x σ2 H2 hx ⟨ρ2,G2,s2,q2,r2,p2⟩;obtain⟨d,hd,rd⟩:=r2.get' hx;have hl:=(df.mp hd).1;rw[iq hl,(df.mp hd).2]at p2;exact uc s2 rd p2 fun σ' H' ρ' G' s' q' p'=>⟨ρ',G',s',q'.seq q2,r2.mono q',p'⟩
  ·rintro σ2 H2 ⟨ρ2,G2,s2,q2,r2,p2⟩;rw[<- r2.length,oB]at p2;exact p2 σ2 H2 G2 s2 (.refl _)
 |_=>exact p1.elim
theorem xV{tg iter:ah}{body:List bj}{pos:Pos}{f:aH->Rs D}{h:Tg}{gb:aH->Ou}(hp:kT (ax X.prog X.w) X.A X.env X.xe)(hc:X.calm=true)(hi:SE X B W iter f)(hg:SG X B tg h)(hb:rA X B W body gb)
  (hs:∀x,gc iter X.env x=pure x:=by intro _;rfl):SS X B W (.For tg iter body [] pos) (yN h gb f):=by
 refine PS.imp (uR hp hc (Jr hi) hg hb hs) fun De σ H fj=>?_;obtain⟨ρ,G,s,p⟩:=fj;refine⟨ρ,G,s,jU s p fun d v H1 G1 _ e r p1=>?_⟩;cases d with
 |tup ds =>
  obtain⟨a,vs,rfl,q,rr⟩:=bR.mp r;refine⟨a,rfl,⟨vs,Same.cV e.gh q⟩,Mf (fun i σ H=>∃ρ G,SR X.K B σ H ρ G/\jT X.K G a vs/\bF X.K G ds vs/\cP X.K B W G (fU h gb (ds.drop i) ρ) De) ⟨ρ,G1,s.ext e,q,rr,by simpa using p1⟩ (fun i σ H _ ⟨ρ,G,s,q,_⟩=>Same.cV s.en.gh q) ?_ ?_⟩
  ·rintro i x σ2 H2 hx ⟨ρ2,G2,s2,q2,r2,p2⟩;obtain⟨d,hd,rd⟩:=r2.get' hx;have hl:=(df.mp hd).1;rw[iq hl,(df.mp hd).2]at p2;exact uc s2 rd p2 fun σ' H' ρ' G' s' q' p'=>⟨ρ',G',s',Same.cV q' q2,r2.mono q',p'⟩
  ·rintro σ2 H2 ⟨ρ2,G2,s2,q2,r2,p2⟩;rw[<- r2.length,oB]at p2;exact p2 σ2 H2 G2 s2 (.refl _)
 |_=>exact p1.elim
theorem yP{h:Tg}{gb:aH->Ou}{lo:Int}{n:Nat}(s:SR K B σ H ρ G)(p:cP K B W G (fU h gb ((cz n).map fun(i:Nat)=>.int (lo + i)) ρ) De) :
  ∃W0:Nat->Nat->St->Hp->Prop,(∃m,W0 0 m σ H)/\∀i m σ H,W0 i m σ H ->
   ((XS lo n).stop i H/\De.nx σ H)∨((XS lo n).go i H/\∃N:St->Hp->Prop,(∀σ' H',N σ' H'->∃m',m' < m/\W0 (i + 1) m' σ' H')/\∀x H',(XS lo n).yld i H x H'->tG K B h x σ H' fun σ2 H2=>tS K B W gb { De with nx:=N,ct:=N,bk:=De.nx } σ2 H2):=by
 refine Pn (fun i σ H=>∃ρ G,SR K B σ H ρ G/\cP K B W G (fU h gb (((cz n).map fun(i:Nat)=>D.int (lo + i)).drop i) ρ) De) ⟨ρ,G,s,by simpa using p⟩ ?_ ?_
 ·rintro i σ2 H2 hi ⟨ρ2,G2,s2,p2⟩;have hl:i < ((cz n).map fun(i:Nat)=>D.int (lo + i)).length:=by simpa using hi
  rw[iq hl]at p2;rw[show((cz n).map fun(i:Nat)=>D.int (lo + i))[i]=D.int (lo + i) by simp]at p2;exact uc s2 (bA.mpr rfl) p2 fun σ' H' ρ' G' s' q' p'=>⟨ρ',G',s',p'⟩
 ·rintro σ2 H2 ⟨ρ2,G2,s2,p2⟩;rw[mP (by simp)]at p2;exact p2 σ2 H2 G2 s2 (.refl _)
theorem Dj{tg e:ah}{body:List bj}{pos p1 p2:Pos}{f:aH->Rs D}{h:Tg}{gb:aH->Ou}(hp:kT (ax X.prog X.w) X.A X.env X.xe) (hc:X.calm=true) (hm:X.mg "range"=none) (hi:SE X B W e f) (hg:SG X B tg h) (hb:rA X B W body gb)
  (hgl:Gl X "range":=by rfl) (hst:bg [e] X.env=[(false,aS e X.env)]:=by rfl)
  (hs:∀x,gc (.Call (.Name "range" p1) [e] [] p2) X.env x=pure x:=by intro _;rfl):SS X B W (.For tg (.Call (.Name "range" p1) [e] [] p2) body [] pos) (wA h gb f):=by
 refine PS.imp (uR hp hc (Ph hgl hm (eN hi jJ (by rw[hst];rfl)) hst) hg hb hs) fun De σ H fj=>?_;obtain⟨ρ,G,s,p⟩:=fj;refine⟨ρ,G,s,jU s p fun d v H1 G1 _ e r p1=>?_⟩;cases d with
 |int n =>
  dsimp only at p1;by_cases c:-(2 ^ 62)<=n/\n < 2 ^ 62
  ·rw[if_pos c]at p1;refine⟨n,by rw[bA.mp r],c.1,c.2,yP (s.ext e) ?_⟩;simpa using p1
  ·rw[if_neg c]at p1;exact p1.elim
 |_=>exact p1.elim
theorem SX{tg e e':ah}{body:List bj}{pos p1 p2:Pos}{f f':aH->Rs D}{h:Tg}{gb:aH->Ou}(hp:kT (ax X.prog X.w) X.A X.env X.xe) (hc:X.calm=true) (hm:X.mg "range"=none) (hi:SE X B W e f) (hi':SE X B W e' f') (hg:SG X B tg h) (hb:rA X B W body gb)
  (hgl:Gl X "range":=by rfl) (hst:bg [e,e'] X.env=[(false,aS e X.env),(false,aS e' X.env)]:=by rfl) (hst2:bg [e'] X.env=[(false,aS e' X.env)]:=by rfl)
  (hs:∀x,gc (.Call (.Name "range" p1) [e,e'] [] p2) X.env x=pure x:=by intro _;rfl):SS X B W (.For tg (.Call (.Name "range" p1) [e,e'] [] p2) body [] pos) (yO h gb (ak f (ak f' aZ))):=by
 refine PS.imp (uR hp hc (Pj hgl hm (aq hi (aq hi' aQ (by rw[hst2];rfl)) (by rw[hst,hst2])) hst hst2) hg hb hs) fun De σ H fj=>?_;obtain⟨ρ,G,s,p⟩:=fj;refine⟨ρ,G,s,?_⟩;unfold yO at p;cases e1:ak f (ak f' aZ) ρ with
 |ok ds =>
  rw[e1]at p;intro vs H1 G1 e r;have p1:=cP.same p e.gg;simp only[oR]at p1;split at p1
  ·rename_i m n;obtain⟨v,vs',rfl,r1,r2⟩:=aO.mp r;obtain⟨v2,vs'',rfl,r3,r4⟩:=aO.mp r2;rw[bA.mp r1,bA.mp r3,bf.mp r4];by_cases c:(-(2 ^ 62)<=m/\m < 2 ^ 62/\-(2 ^ 62)<=n/\n < 2 ^ 62)
   ·rw[if_pos c]at p1;exact⟨m,n,rfl,c,yP (s.ext e) p1⟩
   ·rw[if_neg c]at p1;exact p1.elim
  ·exact p1.elim
 |ex c n=>rw[e1]at p;exact fun H' G' x=>p σ H' G' (s.ext x) x.gg
 |no=>rw[e1]at p;exact p
noncomputable def Tc:Ou->Ou
 | .ex _ _ _=>.no
 |o=>o
theorem Qc{o:Ou}(p:cP K B W G (Tc o) De):cP K B WF G o De:=by
 cases o with
 |ex c n ρ=>exact p.elim
 |_=>exact p
theorem PS.Pa{st:bj}{t:TS}(h:PS X.Pa st t):PS X st t:=fun pins s σ H D I hw =>
 dS (h pins s σ H D (I.wish _) hw) (fun _ _ q=>q.lZ) fun _ _ z=>ik z
theorem acy{st:bj}{g:aH->Ou}(h:SS X.Pa B WF st g):SS X B W st (fun ρ=>Tc (g ρ)) :=
 PS.imp (PS.Pa h) fun De σ H ⟨ρ,G,s,p⟩=>⟨ρ,G,s,Qc p⟩
noncomputable def zig(n:Int):Nat:=if 0<=n then 2 * n.toNat else 2 * (-n).toNat + 1
noncomputable def xW(c:Str)(n:Int):aa:=.str c (zig n)
noncomputable def RP(K:ai)(G H:Hp)(Q:VK)(E:XK)(r:Rs D):Prop:=match r with
 | .ok d=>∀v H' G',Ext G H G' H'->Rep K G' d v->Q v H'
 | .ex c n=>∀H' G',Ext G H G' H'->E (xW c n) none H'
 | .no=>False
noncomputable def YK(K:ai)(k:Nat)(g:List D->Rs D):Sp:=fun vs H Q E=>vs.length=k/\∃G ds,Ex0 K G H/\bF K G ds vs/\RP K G H Q E (g ds)
noncomputable def dY:Ou->Rs D
 | .nx _=>.ok .non
 | .rt d=>.ok d
 | .ex c n _=>.ex c n
 |_=>.no
noncomputable def kh{α:Type}:Rs α->Rs α
 | .ex _ _=>.no
 |o=>o
noncomputable def aY(N:List Str)(ds:List D):aH:=ds.map .fz++i5 (N.length - ds.length) .no
theorem Gp{N:List Str}{ds:List D}{vs:List V}(e:Ex0 K G H)(r:bF K G ds vs):SR K ⟨G,H,0⟩ (L2.start N vs) H (aY N ds) G:=by
 have Td:∀(i:Nat) (z:Sl),(aY N ds)[i]?=some z->z.own=true->False:=fun i z q w=>by
  unfold aY at q;by_cases hi:i < (ds.map Sl.fz).length
  ·rw[i7 hi,cK]at q;cases e1:ds[i]? with
   |none=>rw[e1]at q;cases q
   |some d=>rw[e1]at q;cases q;cases w
  ·rw[i6 (by lia),ml]at q;split at q <;> cases q;cases w
 refine⟨e.toExt,?_,fun i d q=>?_,fun i z q w=>(Td i z q w).elim,fun i j z z' a q w=>(Td i z q w).elim,fun i ds a q=>(Td i _ q rfl).elim,e.co⟩
 ·unfold aY L2.start;simp[r.length]
 ·unfold aY at q;unfold L2.start;by_cases hi:i < (ds.map Sl.fz).length
  ·rw[i7 hi,cK]at q;cases e1:ds[i]? with
   |none=>rw[e1]at q;cases q
   |some d' =>
    rw[e1]at q;cases q;obtain⟨v,h1,h2⟩:=r.get e1;refine⟨v,?_,h2⟩;rw[i7 (by rw[cx,<- r.length];simpa using hi),cK,h1];rfl
  ·rw[i6 (by lia),ml]at q;split at q <;> cases q
theorem Gq{o:Ou}{Q:VK}{E:XK}(h:RP K B.1 B.2 Q E (dY o)):cP K B (fun c n _ H'=>E (xW c n) none H') G o { nx:=fun _ H'=>Q .non H',rt:=Q }:=by
 cases o with
 |nx ρ'=>exact fun σ' H' G' s q=>h .non H' G' s.en (lJ.mpr rfl)
 |rt d=>exact fun v H' G' x q r=>h v H' G' x r
 |ex c n ρ'=>exact fun σ' H' G' s q=>h H' G' s.en
 |bk _=>exact h.elim
 |ct _=>exact h.elim
 |no=>exact h.elim
 |rx _ _=>exact h.elim
 |rl _=>exact h.elim
section
variable{P:aE}{w:az}{mg:Str->Option aa}{base:Heap}{x qual:Str}{st:bj}{f:ae}{fd:dq}{N ps:List Str}{k:Nat}
end
end
theorem Dl{prog:aE}{w:az}{A:aI}{s:af}{R:Result->af->Prop}{elt target iter:ah}{ifs:List ah}{scope:Scope}{pos:Pos}{it acc:aa}{env:Env}(J:Nat->af->Prop)
  (turn:∀k t,J k t->ar (ax prog w) A (eD it) (fun o t1=>match o with
   |none=>R (.ok .next) t1
   |some x=>ar (ax prog w) A (p9 target it x) (fun _ t2=>ar (ax prog w) A (assign target env x) (fun _ t3 =>
     ar (ax prog w) A (forIn ifs true fun c go=>if go=true then do { let y <- isTrue c env (aS c env);pure (ForInStep.yield y) } else pure (ForInStep.yield go)) (fun yes t4 =>
      if yes=true then ar (ax prog w) A (aS elt env) (fun y t5 =>
       ar (ax prog w) A (call (.builtin "list.append") [acc,y]) (fun _ t6=>∃j,j < k/\J j t6) (fun _ _=>False) t5) (notedBy (ax prog w) A env fun x t'=>R (.error x) t') t4
      else ∃j,j < k/\J j t4) (fun _ _=>False) t3) (fun _ _=>False) t2) (fun _ _=>False) t1) (fun _ _=>False) t)
  (n:Nat) (h:J n s):fq (ax prog w) A (.compLoop (.ListComp elt [⟨target,iter,ifs,0⟩] scope pos) 0 it acc env) R s:=by
 refine codeAny_loop rfl J (fun k t hJ=>?_) n h;show ar _ A (Sem.onRaise (compTurn (.ListComp elt [⟨target,iter,ifs,0⟩] scope pos) 0 it acc env) (fun x=>do kv x env;theTreesLotGoes x)) _ _ t;refine wpAny_noted ?_;rw[compTurn_list];refine ag (td (ag (dS (turn k t hJ) (fun o t1 g1=>?_) fun _ _ z=>z.elim)));cases o with
 |none=>exact a_ g1
 |some x =>
  refine ag (dS g1 (fun _ t2 g2=>?_) fun _ _ z=>z.elim);refine ag (dS g2 (fun _ t3 g3=>ag (dS g3 (fun yes t4 g4=>?_) fun _ _ z=>z.elim)) fun _ _ z=>z.elim);cases yes with
  |true=>exact ag (ag (dS g4 (fun y t5 g5=>ag (dS g5 (fun _ t6 g6=>a_ (a_ ⟨rfl,g6⟩)) fun _ _ z=>z.elim)) fun _ _ z=>z))
  |false=>exact a_ ⟨rfl,g4⟩
noncomputable abbrev fW(X:Cx)(N:List Str)(s₀:af)(H₀:Hp)(sc:Scope)(cl:List (Str×ae))(C:ae)(ex:List ae)(pins:List (ae×Obj)):Cx where
 prog:=X.prog
 w:=X.w
 K:=X.K
 mg:=X.mg
 base:=X.base
 A:=X.A
 N:=N
 s₀:=s₀
 H₀:=H₀
 env:=compEnvC sc cl C X.env
 outer:=X.stack
 stack:=X.stack
 ex:=ex
 fn:=fun _=>false
 calm:=X.calm
 pn:=X.pn++pins
 xe:=fun _ _=>False
noncomputable def dF(sc:Scope)(env:Env):List (Str×ae):=sc.names.foldl (fun cs y=>if y.2 == .free then (y.1,(env.cells.lookup y.1).getD 0)::cs else cs) []
theorem pX{sc:Scope}{env:Env}(h:∀y∈sc.names,y.2=.free->∃c,env.cells.lookup y.1=some c):closureFor sc env=pure (dF sc env):=by
 unfold closureFor dF;have key:∀(l:List (Str×eB)) (cs:List (Str×ae)),(∀y∈l,y.2=.free->∃c,env.cells.lookup y.1=some c) ->
   (forIn l cs (fun(x:Str×eB) (r:List (Str×ae))=>if (x.2 == eB.free)=true then do let a <- cellOf env x.1;pure (ForInStep.yield ((x.1,a)::r)) else pure (ForInStep.yield r)):Sem (List (Str×ae))) =
    pure (l.foldl (fun cs y=>if y.2 == .free then (y.1,(env.cells.lookup y.1).getD 0)::cs else cs) cs):=by
  intro l
  induction l with
  |nil=>intro cs _;rfl
  |cons y l ih =>
   intro cs hl;rw[uj,qo];by_cases hk:(y.2 == eB.free)=true
   ·obtain⟨c,hc⟩:=hl y dC (by simpa using hk);rw[if_pos hk,if_pos hk];unfold cellOf;rw[hc];exact ih _ fun z hz=>hl z (dP _ hz)
   ·rw[if_neg hk,if_neg hk];exact ih _ fun z hz=>hl z (dP _ hz)
 have:=key sc.names [] h;simp only[]at this ⊢;rw[this];rfl
theorem Te{sc:Scope}{env:Env}:∀y∈dF sc env,(∃k∈sc.names,k.1=y.1/\k.2=.free)/\y.2=(env.cells.lookup y.1).getD 0:=by
 unfold dF;have key:∀(l:List (Str×eB)) (cs:List (Str×ae)) (y:Str×ae),y∈l.foldl (fun cs y=>if y.2 == .free then (y.1,(env.cells.lookup y.1).getD 0)::cs else cs) cs ->
   y∈cs∨((∃k∈l,k.1=y.1/\k.2=.free)/\y.2=(env.cells.lookup y.1).getD 0):=by
  intro l
  induction l with
  |nil=>intro cs y h;exact .inl h
  |cons z l ih =>
   intro cs y h;rw[qo]at h;rcases ih _ y h with h|⟨⟨k,hk,e⟩,e2⟩
   ·by_cases hz:(z.2 == eB.free)=true
    ·rw[if_pos hz]at h;rcases bP.mp h with e|h
     ·subst e;exact .inr ⟨⟨z,dC,rfl,by simpa using hz⟩,rfl⟩
     ·exact .inl h
    ·rw[if_neg hz]at h;exact .inl h
   ·exact .inr ⟨⟨k,dP _ hk,e⟩,e2⟩
 intro y hy;rcases key sc.names [] y hy with h|h
 ·cases h
 ·exact h
theorem ud{sc:Scope}{env:Env}{n:Str}(h:(n,eB.free)∈sc.names):∃c,(dF sc env).lookup n=some c:=by
 have key:∀(l:List (Str×eB)) (cs:List (Str×ae)),((n,eB.free)∈l∨∃c,cs.lookup n=some c)->∃c,(l.foldl (fun cs y=>if y.2 == .free then (y.1,(env.cells.lookup y.1).getD 0)::cs else cs) cs).lookup n=some c:=by
  intro l
  induction l with
  |nil =>
   intro cs h;rcases h with h|h
   ·cases h
   ·exact h
  |cons z l ih =>
   intro cs h;rw[qo];refine ih _ ?_;rcases h with h|⟨c,hc⟩
   ·rcases bP.mp h with e|h
    ·subst e;refine .inr ⟨(env.cells.lookup n).getD 0,?_⟩;rw[if_pos (by rfl),mS]
    ·exact .inl h
   ·right;by_cases hz:(z.2 == eB.free)=true
    ·rw[if_pos hz];by_cases e:n=z.1
     ·subst e;exact⟨_,mS⟩
     ·exact⟨c,by rw[i8,show(n == z.1)=false by simpa using e];exact hc⟩
    ·rw[if_neg hz];exact⟨c,hc⟩
 exact key sc.names [] (.inl h)
section
variable{X:Cx}{pins:List (ae×Obj)}{σ:St}{H:Hp}{s:af}
theorem mD{sc:Scope}{env:Env}{x:Str}{k:eB}(h:(relabel sc env).names.lookup x=some k):(∃k',sc.names.lookup x=some k'/\(k'=k∨(k'=.free/\k=.cell))):=by
 have key:∀l:List (Str×eB),i9 x (l.map fun(n,k)=>if (k == .free && env.scope.kind == .function && env.kindOf n == some .cell) then (n,eB.cell) else (n,k))=some k ->
   ∃k',l.lookup x=some k'/\(k'=k∨(k'=.free/\k=.cell)):=by
  intro l
  induction l with
  |nil=>intro h;cases h
  |cons y l ih =>
   intro h;obtain⟨n,kk⟩:=y;rw[cb]at h;by_cases e:(x == n)=true
   ·refine⟨kk,by rw[i8,e],?_⟩;dsimp only at h;split at h
    ·rename_i hc;rw[i8,e]at h;have h':eB.cell=k:=dk h;exact .inr ⟨by simp only[ir,beq_iff_eq]at hc;exact hc.1.1,h'.symm⟩
    ·rw[i8,e]at h;exact .inl (dk h)
   ·have e':(x == n)=false:=by simpa using e
    obtain⟨k',a,b⟩:=ih (by
     dsimp only at h;split at h <;> (rw[i8,e']at h;exact h))
    exact⟨k',by rw[i8,e'];exact a,b⟩
 exact key sc.names h
structure rR (X:Cx)(sc:Scope)(N:List Str)(nt:Nat)(caps:List Nat):Prop where
 kind:sc.kind=.function
 Dm:∀y∈sc.names,y.2≠.cell
 fr:∀y∈sc.names,y.2=.free->X.env.kindOf y.1=some .cell∨X.env.kindOf y.1=some .free
 len:N.length=nt + caps.length
 cap:∀(j i:Nat) (x:Str),caps[j]?=some i->N[nt + j]?=some x->X.N[i]?=some x/\sc.names.lookup x=some .free
theorem rR.cells{sc:Scope}{N:List Str}{nt:Nat}{caps:List Nat}(c:rR X sc N nt caps)(I:Inv X pins σ H s):∀y∈sc.names,y.2=.free->∃a,X.env.cells.lookup y.1=some a :=
 fun y hy hf=>I.ok.has y.1 (c.fr y hy hf)
theorem rR.cl{sc:Scope}{N:List Str}{nt:Nat}{caps:List Nat}(c:rR X sc N nt caps)(I:Inv X pins σ H s){x:Str}{a:ae}(h:(dF sc X.env).lookup x=some a):X.env.cells.lookup x=some a:=by have hm:=g9 h;obtain⟨⟨k,hk,e1,e2⟩,e3⟩:=Te _ hm;obtain⟨b,hb⟩:=c.cells I k hk e2;rw[e1]at hb;dsimp only at e3 hb;rw[hb]at e3;rw[hb,e3];rfl
noncomputable def qu(nt:Nat)(caps:List Nat)(σ:St):St:=i5 nt none++caps.map fun i=>(σ[i]?).getD none
theorem JB{sc:Scope}{N:List Str}{nt:Nat}{caps:List Nat}{fp:List ae}{h':Heap}{tk:Nat}(c:rR X sc N nt caps)(I:Inv X pins σ H s)(hfp:∀b∈fp,mj X pins H b/\b < s.heap.objs.size)
  (hn:h'.Ns s.heap.objs.size fun _=>none) (hk:∀b o,s.heap.get? b=some o->h'.get? b=some o) :
  Inv (fW X N s H sc (dF sc X.env) s.heap.objs.size fp pins) [] (qu nt caps σ) H { s with heap:=h',toks:=tk }:=by
 have Rj:∀{x:Str}{a:ae},(dF sc X.env).lookup x=some a->X.env.cells.lookup x=some a:=fun h=>c.cl I h;have stk:∀b,b≠X.env.locals->b∉X.fs->b∉oZ X.stack:=fun b h1 h2 h3=>(bP.mp (I.sS b h3)).elim h1 h2;refine⟨⟨I.ok.mod,c.kind,I.ok.glob,I.ok.blt,bz _,fun x y a h1 h2=>I.ok.inj x y a (Rj h1) (Rj h2),fun x hx=>?_,fun x a hf=>absurd (show false=true from hf) uk,I.ok.hd,I.ok.frames,.inl rfl,fun b hb=>⟨ck (hfp b hb).2,fun x a ha=>(hfp b hb).1.2.2.2.2.1 x a (Rj ha)⟩,
  fun b o e=>I.bs b o e,et I.ok.Ru I.sz,fun b o e hb=>?_,fun b hb=>stk b (hfp b hb).1.2.1 (hfp b hb).1.2.2.1,I.stack,I.xP⟩,
  rfl,I.bare,Un.kept hk,⟨_,hn,fun i x v h1 h2 h3=>?_⟩,fun x a ha=>?_,I.hok.fresh (bz _),fun x a ha=>I.jF x a (Rj ha),fun p hp=>?_,I.hok.kept hk,?_⟩
 ·-- has
  have hx':(relabel sc X.env).names.lookup x=some .cell∨(relabel sc X.env).names.lookup x=some .free:=hx;have:sc.names.lookup x=some .free:=by
   rcases hx' with hx'|hx'
   ·obtain⟨k',h1,h2⟩:=mD hx';rcases h2 with h2|⟨h2,_⟩
    ·subst h2;exact(c.Dm _ (g9 h1) rfl).elim
    ·rw[h1,h2]
   ·obtain⟨k',h1,h2⟩:=mD hx';rcases h2 with h2|⟨h2,e⟩
    ·rw[h1,h2]
    ·cases e
  exact ud (g9 this)
 ·-- Cy
  obtain⟨_,_,_,h4,_⟩:=(hfp b hb).1;rcases h4 with h4|h4
  ·exact I.ok.Cy b o e h4
  ·exact absurd (dm (bE e) (et I.ok.Ru h4)) (fw _)
 ·-- loc
  unfold qu at h2;by_cases hi:i < (i5 nt (none:Option V)).length
  ·rw[i7 hi,ml]at h2;split at h2 <;> cases h2
  ·rw[i6 (by lia),cK]at h2;rw[oq]at h2 hi;cases e:caps[i - nt]? with
   |none=>rw[e]at h2;cases h2
   |some k =>
    rw[e]at h2;have h2':(σ[k]?).getD none=some v:=dk h2;have hs:σ[k]?=some (some v):=by
     cases e3:σ[k]? with
     |none=>rw[e3]at h2';cases h2'
     |some z=>rw[e3]at h2';exact congrArg some h2'
    obtain⟨hX,hl0⟩:=c.cap (i - nt) k x e (by rw[show nt + (i - nt)=i by lia];exact h1);have hf:(x,eB.free)∈sc.names:=g9 hl0;obtain⟨m,_,hl⟩:=I.loc;have hkind:=c.fr _ hf rfl;obtain⟨u,r,l⟩:=hl k x v hX hs (by rcases hkind with q|q;exact .inr (.inl q);exact .inr (.inr q));refine⟨u,r,.inr ⟨?_,?_⟩⟩
    ·have h3':(relabel sc X.env).names.lookup x=some .local∨(relabel sc X.env).names.lookup x=some .cell∨(relabel sc X.env).names.lookup x=some .free:=h3;rcases h3' with q|q|q
     ·obtain⟨k',a1,a2⟩:=mD q;exfalso;rw[hl0]at a1;cases a1;rcases a2 with a2|⟨_,a2⟩ <;> cases a2
     ·exact .inl q
     ·exact .inr q
    ·obtain⟨cc,hcc⟩:=ud (env:=X.env) hf;refine⟨cc,hcc,?_⟩;rcases l with ⟨q,_⟩|⟨_,c2,hc2,z⟩
     ·rcases hkind with q'|q' <;> (rw[q]at q';cases q')
     ·rw[Rj hcc]at hc2;cases hc2;obtain⟨o,ho,hd⟩:=z;exact⟨o,hk _ _ ho,hd⟩
 ·obtain⟨v,o,ho,hd⟩:=I.cell x a (Rj ha);exact⟨v,o,hk _ _ ho,hd⟩
 ·rw[i4]at hp;obtain⟨e,n,ne,nf,d⟩:=I.pin p hp;exact⟨hk _ _ e,n,ck (bE e),stk _ ne nf,d⟩
 ·unfold qu;rw[dE,oq,cx];exact c.len.symm
end
theorem Inv.moved{X:Cx}{pins:List (ae×Obj)}{σ:St}{H:Hp}{s:af}{h':Heap}{t':Nat}(I:Inv X pins σ H s)(ch:List ae)
  (hch:∀b∈ch,X.s₀.heap.get? b=none/\b≠X.env.locals/\(∀x c,X.env.cells.lookup x=some c->c≠b)/\(∀p∈X.pn++pins,p.1≠b)/\H b=none)
  (keep:∀b o,b∉oZ X.stack->b∉ch->s.heap.get? b=some o->h'.get? b=some o)
  (slot:∀b o,b∈oZ X.stack->s.heap.get? b=some o->∃sl,h'.get? b=some { o with slots:=sl }):Inv X pins σ H { s with heap:=h',toks:=t' }:=by
 have sub:=I.sS;have sup:∀b∈X.fs,b∈oZ X.stack:=fun b hb=>by
  rcases I.ok.stk with e|⟨e,hf⟩
  ·rw[e];exact hb
  ·rw[e];unfold oZ;rw[l_,hf];exact dP _ hb
 have neL:∀b o,X.s₀.heap.get? b=some o->b≠X.env.locals:=fun b o e=>ck (dm (bE e) I.ok.above);have Lw:∀b o,X.s₀.heap.get? b=some o->b∉ch:=fun b o e z=>by rw[(hch b z).1]at e;cases e
 have any:∀b o,b∉ch->s.heap.get? b=some o->∃sl,h'.get? b=some { o with slots:=sl }:=fun b o hc e=>by
  by_cases hb:b∈oZ X.stack
  ·exact slot b o hb e
  ·exact⟨o.slots,keep b o hb hc e⟩
 have lch:X.env.locals∉ch:=fun z=>(hch _ z).2.1 rfl;have cch:∀x c,X.env.cells.lookup x=some c->c∉ch:=fun x c e z=>(hch c z).2.2.1 x c e rfl;have cellK:∀x c v,X.env.cells.lookup x=some c->s.heap.IsCell c v->h'.IsCell c v:=fun x c v e ⟨o,ho,hd⟩=>by obtain⟨sl,q⟩:=any c o (cch x c e) ho;exact⟨_,q,hd⟩
 refine⟨I.ok,I.os,I.bare,⟨fun b o e n hb hx=>?_,fun b o e n hb hx=>?_,I.base.free,fun b o e hx=>?_,I.base.tups,I.base.uO,I.base.wL⟩,?_,fun x c e=>?_,I.free,I.jF,fun p hp=>?_,fun b o e=>?_,I.len⟩
 ·exact keep b o (fun z=>(bP.mp (sub b z)).elim (neL b o e) hb) (Lw b o e) (I.base.keep b o e n hb hx)
 ·obtain⟨sl,q⟩:=I.base.slot b o e n hb hx;obtain⟨sl',q'⟩:=slot b _ (sup b hb) q;exact⟨sl',q'⟩
 ·obtain⟨o',q⟩:=I.base.there b o e hx;obtain⟨sl,q'⟩:=any b o' (Lw b o e) q;exact⟨_,q'⟩
 ·obtain⟨m,⟨o,es,ep,ho,r⟩,hl⟩:=I.loc;obtain⟨sl,q⟩:=any _ o lch ho;refine⟨m,⟨_,es,ep,q,r⟩,fun i x v h1 h2 h3=>?_⟩;obtain⟨u,ru,l⟩:=hl i x v h1 h2 h3;refine⟨u,ru,?_⟩;rcases l with l|⟨k,c,e,z⟩
  ·exact .inl l
  ·exact .inr ⟨k,c,e,cellK x c _ e z⟩
 ·obtain⟨v,z⟩:=I.cell x c e;exact⟨v,cellK x c v e z⟩
 ·obtain⟨e,n,ne,nf,d⟩:=I.pin p hp;exact⟨keep _ _ (fun z=>(bP.mp (sub _ z)).elim ne nf) (fun z=>(hch _ z).2.2.2.1 p hp rfl) e,n,ne,nf,d⟩
 ·have tr:∀c u,H c=some u->c∉oZ X.stack/\c∉ch:=fun c u z=>⟨fun w=>(by rw[I.xP c w]at z;cases z),fun w=>(by rw[(hch c w).2.2.2.2]at z;cases z)⟩
  refine(I.hok b o e).stay (fun c u hc q=>?_) (fun _ q=>q) (fun _ _ q=>q) fun _ _ q=>q;rcases hc with hc|hc
  ·subst hc;exact keep c u (tr c _ e).1 (tr c _ e).2 q
  ·exact keep c u (tr c _ hc).1 (tr c _ hc).2 q
noncomputable def Tr(h:Heap)(H:Hp)(old:Heap)(av:List ae)(ea:ae)(vs:Array aa):Prop:=∃T oT ts x,vs[1]?=some (.ref T)/\T≠ea/\h.get? T=some oT/\oT.data=.fields ts/\ts[3]?=some x/\H T=none/\old.get? T=none/\T∉av
noncomputable def XFl(H:Hp)(old:Heap)(od:Option ae)(c:Str)(n:Int):Prop:=n=0∨∃d i,n=2 * i + 1/\od=some d/\H d=some (.xd [(RV c,.int i)])/\old.get? d=none
theorem XFl.old{H:Hp}{old aeV:Heap}{od:Option ae}{c:Str}{n:Int}(h:XFl H old od c n)(k:∀b,old.get? b=none->aeV.get? b=none):XFl H aeV od c n:=h.imp id fun⟨d,i,h1,h2,h3,h4⟩=>⟨d,i,h1,h2,h3,k _ h4⟩
noncomputable def Dp(K:ai)(old:Heap)(av:List ae)(ea:ae)(c:Str)(n:Int)(h:Heap)(H:Hp)(tr:Bool):Prop :=
 ∃C oe vs a0,ip K bu c=some (some (.ref C))/\h.get? ea=some oe/\oe.cls=.ref C/\oe.data=.fields vs/\vs[0]?=some a0/\H ea=none/\old.get? ea=none/\ea∉av/\XFl H old oe.dict c n /\
  (if tr=true then Tr h H old av ea vs else vs[1]?=some .none)
noncomputable def Bk(P:aE)(w:az)(K:ai):CXT:=fun outer H s E e s'=>∃ea c n H',e=.ref ea/\s'.os=s.os/\qq s'.gens/\Un (oZ outer) [] H H' s.heap s'.heap/\tU P w H' s'.heap/\Dp K s.heap [] ea c n s'.heap H' true/\E (xW c n) none H'
noncomputable def Bl(X:Cx)(W:Wi):Prop:=∀pins σ H s ea c n tr,Inv X pins σ H s->Dp X.K X.s₀.heap ((X.pn++pins).map (·.1)) ea c n s.heap H tr->W c n σ H->X.xe (.ref ea) s
section
variable{X:Cx}{pins:List (ae×Obj)}{σ:St}{H:Hp}{s:af}{ea:ae}{c:Str}{n:Int}{tr:Bool}
theorem Tf(I:Inv X pins σ H s){b:ae}{o:Obj}{vs:Array aa}(e:s.heap.get? b=some o)(d:o.data=.fields vs)(hold:X.s₀.heap.get? b=none)(hn:H b=none)(hp:∀p∈X.pn++pins,p.1≠b) :
  X.s₀.heap.get? b=none/\b≠X.env.locals/\(∀x c,X.env.cells.lookup x=some c->c≠b)/\(∀p∈X.pn++pins,p.1≠b)/\H b=none:=by
 refine⟨hold,fun z=>?_,fun x c hc z=>?_,hp,hn⟩
 ·obtain⟨m,⟨o',es,ep,ho,hd,_⟩,_⟩:=I.loc;rw[<- z,e]at ho;cases ho;rw[d]at hd;cases hd
 ·obtain⟨v,o',ho,hd⟩:=I.cell x c hc;rw[z,e]at ho;cases ho;rw[d]at hd;cases hd
theorem sV{P:aE}{w:az}{H:Hp}{h:Heap}{a:ae}{o:HO}(x:dW P w H h a o):∃u,h.get? a=some u:=by
 induction o with
 |lst xs=>obtain⟨z,its,n,r,e⟩:=x;exact⟨_,e⟩
 |tup xs=>obtain⟨z,its,r,ob,e,c⟩:=x;exact⟨_,e⟩
 |dK kvs=>obtain⟨z,y,vs,r,ob,es,ep,e,c⟩:=x;exact⟨_,e⟩
 |dT kvs=>obtain⟨z,y,xs,r,ob,es,ep,e,c⟩:=x;exact⟨_,e⟩
 |set S n=>obtain⟨ob,es,ep,t,e,c⟩:=x;exact⟨_,e⟩
 |ins C dx fs=>obtain⟨d,z,ne,e,_⟩:=x;exact⟨_,e⟩
 |own y=>obtain⟨ob,e⟩:=x;exact⟨_,e⟩
 |xd fs=>obtain⟨mA,⟨od,es,ep,e,c⟩,r⟩:=x;exact⟨_,e⟩
 |rng lo hi=>obtain⟨t,u,v,e⟩:=x;exact⟨_,e⟩
 |yt ob u ih=>obtain⟨e,q⟩:=x;exact⟨_,e⟩
 |tbl ps=>exact⟨_,(show h.get? a=some { cls:=.none,data:=.fields ps } from x)⟩
 |tab q=>obtain⟨_,e,_⟩:=x;exact⟨_,e⟩
 |Fz q=>obtain⟨_,_,_,e,_⟩:=x;exact⟨_,e⟩
 |met f y=>exact⟨_,(show h.get? a=some (p7 (.ref f) (.ref y)) from x)⟩
 |ext φ=>obtain⟨p,⟨o,e⟩,st⟩:=x;exact⟨_,e⟩
theorem Bm(I:Inv X pins σ H s){ch:List ae}{h':Heap}{t':Nat}(hch:∀b∈ch,∃o vs,s.heap.get? b=some o/\o.data=.fields vs/\X.s₀.heap.get? b=none/\H b=none/\b∉(X.pn++pins).map (·.1))
  (st:(kM s.heap (oZ X.stack++ch)).StaysIn h') (up:s.heap.UpToSlots h'):Inv X pins σ H { s with heap:=h',toks:=t' }:=by
 refine Inv.moved I ch (fun b hb=>?_) (fun b o h1 h2 e=>st b o (sR _ e (by rw[dQ];exact fun z=>z.elim h1 h2))) (fun b o hb e=>?_)
 ·obtain⟨o,vs,e,d,h1,h2,h3⟩:=hch b hb;exact Tf I e d h1 h2 fun p hp z=>h3 (eQ.mpr ⟨p,hp,z⟩)
 ·obtain⟨_,o',ho,hnf⟩:=I.stack.mem hb;rw[e]at ho;cases ho;exact up b o e hnf
theorem YL(I:Inv X pins σ H s)(hex:X.ex=[]){ch:List ae}{h':Heap}{T:ae}{oT:Obj}{ts:Array aa}(hch:∀b∈ch,∃o vs,s.heap.get? b=some o/\o.data=.fields vs/\X.s₀.heap.get? b=none/\H b=none/\b∉(X.pn++pins).map (·.1))
  (up:s.heap.UpToSlots h') (hT:h'.get? T=some oT) (dT:oT.data=.fields ts) (hn:(kM s.heap (oZ X.stack++ch)).get? T=none) :
  H T=none/\X.s₀.heap.get? T=none/\T∉(X.pn++pins).map (·.1):=by
 by_cases hc:T∈ch
 ·obtain⟨o,vs,e,d,h1,h2,h3⟩:=hch T hc;exact⟨h2,h1,h3⟩
 have hf:T∉oZ X.stack:=fun z=>by obtain⟨_,o',ho,hnf⟩:=I.stack.mem z;obtain⟨sl,q⟩:=up T o' ho hnf;rw[hT]at q;cases q;exact hnf ts dT
 have hs:s.heap.get? T=none:=by
  cases e:s.heap.get? T with
  |none=>rfl
  |some o=>rw[sR _ e (by rw[dQ];exact fun z=>z.elim hf hc)]at hn;cases hn
 refine⟨?_,?_,fun z=>?_⟩
 ·cases e:H T with
  |none=>rfl
  |some u =>
   obtain⟨o,z⟩:=sV (I.hok T u e);rw[hs]at z;cases z
 ·cases e:X.s₀.heap.get? T with
  |none=>rfl
  |some o =>
   obtain⟨o',q⟩:=I.base.there T o e (by rw[hex];simp);rw[hs]at q;cases q
 ·obtain⟨p,hp,e⟩:=eQ.mp z;have:=(I.pin p hp).1;rw[e,hs]at this;cases this
end
section
variable{X:Cx}{pins:List (ae×Obj)}{σ:St}{H:Hp}{s:af}{ea:ae}{c:Str}{n:Int}{tr:Bool}
theorem Ti(I:Inv X pins σ H s)(F:Dp X.K X.s₀.heap ((X.pn++pins).map (·.1)) ea c n s.heap H tr) :
  ∃ch:List ae,ea∈ch/\(∀b∈ch,∃o vs,s.heap.get? b=some o/\o.data=.fields vs/\X.s₀.heap.get? b=none/\H b=none/\b∉(X.pn++pins).map (·.1)) /\
   ∃C oe vs a0,ip X.K bu c=some (some (.ref C))/\s.heap.get? ea=some oe/\oe.cls=.ref C/\oe.data=.fields vs/\vs[0]?=some a0/\XFl H X.s₀.heap oe.dict c n/\X.s₀.heap.get? ea=none/\H ea=none/\ea∉(X.pn++pins).map (·.1) /\
    (if tr=true then ∃T oT ts x,vs[1]?=some (.ref T)/\T∈ch/\T≠ea/\s.heap.get? T=some oT/\oT.data=.fields ts/\ts[3]?=some x else vs[1]?=some .none):=by
 obtain⟨C,oe,vs,a0,h1,h2,h3,h4,h5,h6,h7,h8,h9,h10⟩:=F;cases tr with
 |false =>
  refine⟨[ea],by simp,fun b hb=>?_,C,oe,vs,a0,h1,h2,h3,h4,h5,h9,h7,h6,h8,h10⟩;obtain rfl:b=ea:=by simpa using hb
  exact⟨oe,vs,h2,h4,h7,h6,h8⟩
 |true =>
  rw[if_pos rfl]at h10;obtain⟨T,oT,ts,x,t1,t2,t3,t4,t5,t6,t7,t8⟩:=h10;refine⟨[ea,T],by simp,fun b hb=>?_,C,oe,vs,a0,h1,h2,h3,h4,h5,h9,h7,h6,h8,?_⟩
  ·rcases bP.mp hb with rfl|hb
   ·exact⟨oe,vs,h2,h4,h7,h6,h8⟩
   ·obtain rfl:b=T:=by simpa using hb
    exact⟨oT,ts,t3,t4,t7,t6,t8⟩
  ·rw[if_pos rfl];exact⟨T,oT,ts,x,t1,by simp,t2,t3,t4,t5⟩
theorem Qd(o:Obj)(f):(o.mapFields f).dict=o.dict:=by unfold ky;split <;> rfl
theorem Mw{M:Model}{A:aI}{base:Heap}{env:Env}{outer:List Env}{L e:ae}{oe:Obj}{vs:Array aa}{hd0 a0:aa}{b0:Bool}{Q:Unit->af->Prop}{E:aa->af->Prop}(hfr:A.frames=some (env::outer))(hl:s.heap.FunFrames base (env::outer))(hf:env.frame=some L)
  (he:s.heap.get? e=some oe) (hkb:base.StaysIn s.heap) (hen:base.get? e=none) (hd:oe.data=.fields vs) (hsz:1 < vs.size) (h0:vs[0]?=some a0)
  (k:∀h',uu base (env::outer) e oe.cls a0 (dy L) s.heap h'->(∀o',h'.get? e=some o'->o'.dict=oe.dict)->Q () { s with heap:=h' }) :
  ar M A (frameOf env >>= fun fr=>entryPlaceOf L b0 >>= fun pl=>EntryCells.newEntry hd0 fr .none (dy L) .none pl >>= fun t=>setField (.ref e) 1 t) Q E s:=by
 have abw:e∉(env::outer).filterMap (·.frame):=fun z=>by obtain⟨_,o,ho,nf⟩:=hl.mem z;rw[he]at ho;cases ho;exact nf vs hd
 refine ag (wpAny_frameOf_fun hfr hl hf fun g ⟨_,g2,g3⟩=>ag (wpAny_entryPlaceOf fun pl hpl=>?_));unfold EntryCells.newEntry newFields;refine ag (gz ?_ (hpl.sizeOk5 _ _ _ _ _));generalize hT:({ cls:=.type "traceback",dict:=none,data:=_ }:Obj)=oT;have eg:g.get? e=some oe:=(g2 e abw).trans he;have kb:base.StaysIn g:=fun b o z=>(g2 b fun w=>by rw[(hl.mem w).1]at z;cases z).trans (hkb b o z);have ep:=bS (h:=g) oT eg;refine k9 ep hd hsz ?_;have ne:g.objs.size≠e:=jS (bE eg);have dat:=k_ hd (·.setIfInBounds 1 (aa.ref g.objs.size));have self:=gE (ky (·.setIfInBounds 1 (aa.ref g.objs.size))) ep (qr dat);have other:∀b o,b≠e->g.get? b=some o->((g.push oT).update e (ky (·.setIfInBounds 1 (aa.ref g.objs.size)))).get? b=some o:=fun b o z w =>
  (eC _ _ (b_ z)).trans (bS _ w)
 have new:((g.push oT).update e (ky (·.setIfInBounds 1 (aa.ref g.objs.size)))).get? g.objs.size=some oT :=
  (eC _ _ (b_ ne)).trans (cy g (by rw[<- hT];rfl))
 have apart:∀b o,s.heap.get? b=some o->(∀ws,o.data≠.fields ws)->b≠e:=fun b o z nf w=>by rw[w,he]at z;cases z;exact nf vs hd
 refine k _ ⟨fun b o z=>other b o (fun w=>by rw[w,hen]at z;cases z) (kb b o z),hl.of_keeps fun b o z nf=>?_,?_,fun b o z nf=>?_⟩ fun o' z=>?_
 ·obtain⟨sl,w⟩:=g3 b o z;exact⟨_,other b _ (apart b o z nf) w,rfl⟩
 ·refine⟨_,_,g.objs.size,oT,_,self,⟨uv _ _,by rw[Array.getElem?_setIfInBounds_ne (by decide)];exact h0⟩,dat,by simp[hsz],kb.fresh,ne,new,by rw[<- hT],?_⟩
  first|(simp;done)|(rcases hpl with rfl|⟨_,_,_,_,_,_,_,rfl⟩ <;> simp)
 ·obtain⟨sl,w⟩:=g3 b o z;exact⟨sl,other b _ (apart b o z nf) w⟩
 ·rw[self]at z;cases z;exact Qd _ _
theorem Tj{M:Model}{A:aI}{base:Heap}{env:Env}{outer:List Env}{L e:ae}{cls a0 fl:aa}{Q:Unit->af->Prop}{E:aa->af->Prop}(hfr:A.frames=some (env::outer))(hl:s.heap.FunFrames base (env::outer))(hf:env.frame=some L)
  {od:Option ae}(ht:s.heap.TracedAtW base e cls a0 fl) (hod:∀o',s.heap.get? e=some o'->o'.dict=od) (hkb:base.StaysIn s.heap) (hen:base.get? e=none) (h:∀h',uu base (env::outer) e cls a0 (dy L) s.heap h'->(∀o',h'.get? e=some o'->o'.dict=od)->Q () { s with heap:=h' }):ar M A (kv (.ref e) env) Q E s:=by
 by_cases c:fl=dy L
 ·subst c;exact wpAny_noteFrame_againW hf ht (h s.heap ⟨hkb,hl,ht,fun b o hb _=>⟨o.slots,hb⟩⟩ hod)
 obtain⟨oe,vs,T,oT,ts,he,⟨hcls,h0⟩,hd,h1,hnT,hTe,hT,hdT,h3⟩:=ht;subst hcls;unfold kv;simp only[hf];refine ag (ef he hd h1 ?_);rw[if_pos (show(aa.ref T != aa.none)=true from by simp)];refine ag (ef hT hdT h3 ?_);rw[if_neg (show ¬((fl == dy L)=true) from by simpa using c)];refine ag (k9 hT hdT (gi.mp h3).1 ?_);have other:∀b,b≠T->(s.heap.update T (ky (·.setIfInBounds 3 aa.none))).get? b=s.heap.get? b:=fun b hb=>eC _ _ (b_ hb);have noRecord:∀b o,s.heap.get? b=some o->(∀vs,o.data≠.fields vs)->b≠T:=fun b o hb hnf q=>by rw[q,hT]at hb;injection hb with hb;subst hb;exact hnf ts hdT
 refine Mw hfr (hl.of_keeps fun b o hb hnf=>⟨o,(other b (noRecord b o hb hnf)).trans hb,rfl⟩) hf ((other e (b_ hTe)).trans he)
  (fun b o hbo=>(other b fun q=>by rw[q,hnT]at hbo;cases hbo).trans (hkb b o hbo)) hen hd (gi.mp h1).1 h0
  fun h' ⟨x1,x2,x3,x4⟩ x5=>h h' ⟨x1,x2,x3,fun b o hb hnf=>x4 b o ((other b (noRecord b o hb hnf)).trans hb) hnf⟩ fun o' e'=>(x5 o' e').trans (hod _ he)
theorem JC{M:Model}{Q:Unit->af->Prop}{E:aa->af->Prop}{outer:List Env}{L:ae}(hst:X.stack=X.env::outer)(hf:X.env.frame=some L)(hex:X.ex=[])(I:Inv X pins σ H s)(F:Dp X.K X.s₀.heap ((X.pn++pins).map (·.1)) ea c n s.heap H tr)
  (hQ:∀h',Inv X pins σ H { s with heap:=h' }->Dp X.K X.s₀.heap ((X.pn++pins).map (·.1)) ea c n h' H true->s.heap.UpToSlots h'->Q () { s with heap:=h' }):ar M X.A (kv (.ref ea) X.env) Q E s:=by
 obtain⟨ch,he,hch,C,oe,vs,a0,h1,h2,h3,h4,h5,h9,h7,h6,h8,h10⟩:=Ti I F;have hfr:X.A.frames=some (X.env::outer):=by rw[<- hst];exact I.ok.frames
 have hl:s.heap.FunFrames (kM s.heap (oZ X.stack++ch)) (X.env::outer):=by have:=PySem.W.funFrames_hide (as:=oZ X.stack++ch) I.stack fun env he b hb=>kQ _ (oi.mpr ⟨env,he,hb⟩);rw[hst]at this ⊢;exact this
 have hkb:(kM s.heap (oZ X.stack++ch)).StaysIn s.heap:=fun b o e=>sT _ e;have hn:∀b∈ch,(kM s.heap (oZ X.stack++ch)).get? b=none:=fun b hb=>s_ _ (fg _ hb);have dY:∀h',uu (kM s.heap (oZ X.stack++ch)) (X.env::outer) ea oe.cls a0 (dy L) s.heap h'->(∀o',h'.get? ea=some o'->o'.dict=oe.dict)->Q () { s with heap:=h' }:=fun h' ⟨k1,_,k2,k3⟩ kd=>by have I':=Bm (t':=s.toks) I hch k1 k3;obtain⟨oe',vs',T,oT,ts,e1,⟨e2,e3⟩,e4,e5,e6,e7,e8,e9,e10⟩:=k2;obtain⟨n1,n2,n3⟩:=YL I hex hch k3 e8 e9 e6;refine hQ h' I' ⟨C,oe',vs',a0,h1,e1,e2.trans h3,e4,e3,h6,h7,h8,by rw[kd _ e1];exact h9,?_⟩ k3;rw[if_pos rfl];exact⟨T,oT,ts,_,e5,e7,e8,e9,e10,n1,n2,n3⟩
 cases tr with
 |false =>
  rw[if_neg (by decide)]at h10;unfold kv;simp only[hf];refine ag (ef h2 h4 h10 ?_);rw[if_neg (by decide)];exact Mw hfr hl hf h2 hkb (hn _ he) h4 (gi.mp h10).1 h5 dY
 |true =>
  rw[if_pos rfl]at h10;obtain⟨T,oT,ts,x,t1,t0,t2,t3,t4,t5⟩:=h10;exact Tj hfr hl hf ⟨oe,vs,T,oT,ts,h2,⟨rfl,h5⟩,h4,t1,hn _ t0,t2,t3,t4,t5⟩ (fun o' e'=>by rw[h2]at e';cases e';rfl) hkb (hn _ he) dY
theorem Dq{M:Model}{A:aI}{fr:Option ae}{Q:Unit->af->Prop}{E:aa->af->Prop}(I:Inv X pins σ H s)(F:Dp X.K X.s₀.heap ((X.pn++pins).map (·.1)) ea c n s.heap H true)
  (hQ:∀h',Inv X pins σ H { s with heap:=h' }->Dp X.K X.s₀.heap ((X.pn++pins).map (·.1)) ea c n h' H true->Q () { s with heap:=h' }) :
  ar M A (oC (.ref ea) fr) Q E s:=by
 obtain⟨ch,he,hch,C,oe,vs,a0,h1,h2,h3,h4,h5,h9,h7,h6,h8,h10⟩:=Ti I F;rw[if_pos rfl]at h10;obtain⟨T,oT,ts,x,t1,t0,t2,t3,t4,t5⟩:=h10;have sz:3 < ts.size:=(gi.mp t5).1;obtain⟨_,_,_,_,n2,n1,n3⟩:=hch T t0;have other:∀b,b≠T->(s.heap.update T (ky (·.setIfInBounds 3 (fr.elim aa.none fun f=>dy f)))).get? b=s.heap.get? b:=fun b hb=>eC _ _ (b_ hb);unfold oC;refine ag (ef h2 h4 t1 ?_);rw[if_pos (show(aa.ref T != aa.none)=true from by simp)];refine k9 t3 t4 sz (hQ _ (Bm (t':=s.toks) I hch (fun b o e=>?_) fun b o e hn=>⟨o.slots,(other b fun q=>?_).trans e⟩) ⟨C,oe,vs,a0,h1,(other ea (b_ t2)).trans h2,h3,h4,h5,h6,h7,h8,h9,?_⟩)
 ·refine(other b fun q=>?_).trans (sT _ e);rw[q,s_ _ (fg _ t0)]at e;cases e
 ·rw[q,t3]at e;cases e;exact hn _ t4
 ·rw[if_pos rfl];exact⟨T,_,_,_,t1,t2,gE _ t3 (qr (k_ t4 _)),k_ t4 _,Array.getElem?_setIfInBounds_self_of_lt sz,n1,n2,n3⟩
theorem YM{M:Model}{Q:Unit->af->Prop}{E:aa->af->Prop}{outer:List Env}{L:ae}(hst:X.stack=X.env::outer)(hf:X.env.frame=some L)(hex:X.ex=[])(I:Inv X pins σ H s)(F:Dp X.K X.s₀.heap ((X.pn++pins).map (·.1)) ea c n s.heap H tr)
  (hQ:∀h',Inv X pins σ H { s with heap:=h' }->Dp X.K X.s₀.heap ((X.pn++pins).map (·.1)) ea c n h' H true->Q () { s with heap:=h' }):ar M X.A (leaving X.env (.ref ea)) Q E s:=by
 unfold leaving;exact ag (JC hst hf hex I F fun h' I' F' _=>Dq I' F' hQ)
end
section
variable{P:aE}{w:az}{K:ai}{mg:Str->Option aa}{base:Heap}{x qual:Str}{st:bj}{f:ae}{fd:dq}{N ps:List Str}{k:Nat}
theorem rB{scope:Scope}{cdv:aa}{A:aI}{outer:List Env}{s:af}{H:Hp}{E:XK}:Bl (rQ (Bk P w K) P w K mg base N qual scope f cdv A outer s H E) (fun c n _ H'=>E (xW c n) none H'):=by intro pins σ H1 s1 ea c n tr I F w1;refine YM (L:=s.heap.objs.size) (outer:=outer) rfl rfl rfl I F fun h' I' F'=>?_;obtain⟨C,oe,vs,a0,h1,h2,h3,h4,h5,h6,h7,h8,h9,h10⟩:=F';refine⟨ea,c,n,H1,rfl,I'.os,I'.bare,I'.base,I'.hok,⟨C,oe,vs,a0,h1,h2,h3,h4,h5,h6,h7,by simp,h9,?_⟩,w1⟩;rw[if_pos rfl]at h10 ⊢;obtain⟨T,oT,ts,x,t1,t2,t3,t4,t5,t6,t7,t8⟩:=h10;exact⟨T,oT,ts,x,t1,t2,t3,t4,t5,t6,t7,by simp⟩
end
theorem YQ{a b:Int}(h:zig a=zig b):a=b:=by unfold zig at h;split at h <;> split at h <;> lia
theorem Mx{c c':Str}{n n':Int}(h:xW c n=xW c' n'):c=c'/\n=n':=by unfold xW at h;injection h with h1 h2;exact⟨h1,YQ h2⟩
noncomputable def sH(X:Cx)(W:Wi):Prop:=∀(pins:List (ae×Obj)) (σ:St) (H:Hp) (s:af) (e:aa) (s':af),Inv X pins σ H s ->
 Bk X.prog X.w X.K X.stack H s (fun v _ H'=>∃c n,v=xW c n/\W c n σ H') e s'->X.xe e s'
theorem cH{X:Cx}:sH X WF:=fun pins σ H s e s' I ⟨ea,c,n,H',_,_,_,_,_,_,_,_,_,w⟩=>w.elim
theorem Tn{X:Cx}{pins:List (ae×Obj)}{σ:St}{H H':Hp}{s:af}{ea:ae}{c:Str}{n:Int}{h:Heap}(I:Inv X pins σ H s)(hex:X.ex=[])(F:Dp X.K s.heap [] ea c n h H' true):Dp X.K X.s₀.heap ((X.pn++pins).map (·.1)) ea c n h H' true:=by
 obtain⟨C,oe,vs,a0,h1,h2,h3,h4,h5,h6,h7,h8,h9,h10⟩:=F;have old:∀b,s.heap.get? b=none->X.s₀.heap.get? b=none:=fun b hb=>by
  cases q:X.s₀.heap.get? b with
  |none=>rfl
  |some o =>
   obtain⟨o',z⟩:=I.base.there b o q (by rw[hex];simp);rw[hb]at z;cases z
 have aeW:∀b,s.heap.get? b=none->b∉(X.pn++pins).map (·.1):=fun b hb z=>by obtain⟨p,hp,e⟩:=eQ.mp z;have:=(I.pin p hp).1;rw[e,hb]at this;cases this
 refine⟨C,oe,vs,a0,h1,h2,h3,h4,h5,h6,old _ h7,aeW _ h7,h9.old old,?_⟩;rw[if_pos rfl]at h10 ⊢;obtain⟨T,oT,ts,x,t1,t2,t3,t4,t5,t6,t7,t8⟩:=h10;exact⟨T,oT,ts,x,t1,t2,t3,t4,t5,t6,old _ t7,aeW _ t7⟩
theorem uf{X:Cx}{W:Wi}(hp:Bl X W)(hex:X.ex=[]):sH X W:=by intro pins σ H s e s' I ⟨ea,c,n,H',e1,os,bare,un,hok,F,c0,n0,e2,w⟩;subst e1;obtain⟨rfl,rfl⟩:=Mx e2;exact hp pins σ H' s' ea c n true (I.call' (ch:=[]) os un hok bare (fun b z=>absurd z (by simp))) (Tn I hex F) w
section
variable{P:aE}{w:az}{K:ai}{mg:Str->Option aa}{base:Heap}{x qual:Str}{st:bj}{f:ae}{fd:dq}{N ps:List Str}{k:Nat}
theorem aeX{g:aH->Ou}(F:Fun K x qual st f fd)(S:bM N ps (aJ st))
  (hb:∀(cdv:aa) (A:aI) (outer:List Env) (s:af) (H:Hp) (E:XK) (B:Bs),lH k (A.deeper (mT qual (aJ st) s.heap.objs.size f cdv))->(∀b,s.heap.get? b=none->B.2 b=none) ->
   rA (rQ (Bk P w K) P w K mg base N qual (aJ st) f cdv A outer s H E) B (fun c n _ H'=>E (xW c n) none H') (cB st) g) :
  Gb P w K mg base (Bk P w K) (k + 1) f fd ps (YK K ps.length fun ds=>dY (g (aY N ds))):=by
 obtain⟨oc,od,kV,doc,pm,an,cdv,ct,osl,rfl,lk,hcd⟩:=F.ex;refine aaM lk hcd S (fun vs H Q E h=>h.1) fun A outer s H vs Q E hr hok h=>?_;obtain⟨_,G,ds,e,r,h⟩:=h;dsimp only at h;exact⟨_,hb cdv A outer s H E ⟨G,H,0⟩ hr (fun b n=>by
  cases z:H b with
  |none=>exact z
  |some u=>obtain⟨o,w⟩:=sV (hok _ _ z);rw[n]at w;cases w),aY N ds,G,Gp e r,Gq (B:=⟨G,H,0⟩) h⟩
theorem aeY{g:aH->Ou}(F:Fun K x qual st f fd)(S:bM N ps (aJ st))
  (hb:∀(cdv:aa) (A:aI) (outer:List Env) (s:af) (H:Hp) (E:XK) (B:Bs),lH k (A.deeper (mT qual (aJ st) s.heap.objs.size f cdv)) ->
   rA (rQ (Bk P w K) P w K mg base N qual (aJ st) f cdv A outer s H E) B (fun c n _ H'=>E (xW c n) none H') (cB st) g) :
  Gb P w K mg base (Bk P w K) (k + 1) f fd ps (YK K ps.length fun ds=>dY (g (aY N ds))):=aeX F S fun cdv A outer s H E B hr _=>hb cdv A outer s H E B hr
end
noncomputable def bD(n:Nat)(g:List D->Rs D):List D->Rs D:=fun ds=>if ds.length=n then g ds else .no
section
variable{X:Cx}{B:Bs}{W:Wi}
theorem YT{x:Str}{p pos:Pos}{e:ah}{es:List ah}{fs:aH->Rs (List D)}{f:ae}{fd:dq}{ps:List Str}{k n:Nat}{g:List D->Rs D}(F:Gb X.prog X.w X.K X.mg X.base (Bk X.prog X.w X.K) k f fd ps (YK X.K n g))(hr:lH k X.A)(hg:Gl X x)(hm:X.mg x=some (.ref f))(hk:j0 X.K (.ref f)=true)(hb:Binds X.K fd ps [])
  (hx:sH X W) (ha:SA X B W (e::es) fs) (hdb:uN x:=by decide) (he:bg (e::es) X.env=(false,aS e X.env)::bg es X.env:=by rfl) (hpl:(dt pos (bg es X.env)).any (·.1)=false:=by rfl) :
  SE X B W (.Call (.Name x p) (e::es) [] pos) (fA fs (bD n g)):=by
 intro pins s σ H Q I h;refine qf (xQ I hg hm ?_ hdb);have h2:tAF X.K B W fs σ H fun vs H1=>YK X.K n g vs H1 Q fun v _ H'=>∃c n,v=xW c n/\W c n σ H':=by
  obtain⟨ρ,G,s,p⟩:=h;refine⟨ρ,G,s,?_⟩;unfold fA at p;cases e:fs ρ with
  |ex c n=>rw[e]at p;exact p
  |no=>rw[e]at p;exact p
  |ok ds =>
   rw[e]at p;intro vs H1 G1 x r;have p:=Post.ext x p;unfold bD at p;dsimp only[Rs.bind]at p;by_cases hl:ds.length=n
   ·rw[if_pos hl]at p;refine⟨by rw[<- r.length];exact hl,G1,ds,(s.ext x).ex0,r,?_⟩;cases e1:g ds with
    |ok d=>rw[e1]at p;exact p
    |ex c n=>rw[e1]at p;exact fun H' G' y=>⟨c,n,rfl,p H' G' y⟩
    |no=>rw[e1]at p;exact p.elim
   ·rw[if_neg hl]at p;exact p.elim
 refine PySem.W.callWith_K (h₀:=X.base) I.ok.mod.Rt hk (iK (ha pos pins s σ H _ I h2) fun us s1 ⟨vs,H1,I1,r,q⟩=>⟨I1.Jl,?_⟩) he hpl;have hl:(us++[]).length=ps.length:=by rw[i4,<- r.length];exact F.len _ _ _ _ q
 have hbb:=hb s1 us I1.Jl hl;rw[i4]at hbb;refine qs (tJ (F.run X.A X.stack s1 H1 ⟨us,[]⟩ us vs Q _ hr I1.env0 hbb r q) fun r s' hq=>?_);cases r with
 |error e=>exact hx pins σ H1 s1 e s' I1 hq
 |ok fl =>
  cases fl with
  |ret u=>exact I1.after hq
  |next=>exact ik hq
  |brk=>exact ik hq
  |cont=>exact ik hq
theorem YW{K:ai}{h:Heap}{C:ae}{bmB:List aa}{newId:String}(Z:K.In h)(q:uA K C bmB newId=true) :
  ∃bm N nm qn bs hd sn sub ab col dd k0 k1 k2 k3 k5 mN,h.get? C=some (excClassObj nm qn C N bs bm hd sn sub ab col dd k0 k1 k2 k3 k5 newId)/\h.Ns N mN/\mN "__init__"=none/\OwnTail h bmB bm:=by
 unfold uA at q;split at q
 next dd cl sl ho =>
  split at q
  next C1 tl a0 a1 a2 a3 nw a5 hmro hsl =>
   simp only[ir,Bool.not_eq_true',beq_iff_eq]at q;obtain⟨⟨⟨⟨⟨q1,q2⟩,q3⟩,q4⟩,q5⟩,q6⟩:=q;subst q1 q2;obtain⟨y1,y2,y3,y4,y5,y6,y7,y8,y9,y10,y11⟩:=cl;dsimp only at hmro q3 q5 q6;subst hmro q3;have e:sl=#[a0,a1,a2,a3,some (.builtin nw),a5]:=by cases sl;exact congrArg Array.mk hsl
   rw[e]at ho;exact⟨tl,y4,y1,y5,y2,y6,y7,y8,y9,y10,dd,a0,a1,a2,a3,a5,_,Z _ _ ho,.of_isNs (PySem.W.isNs_of_in Z q5),PySem.W.nsMap_none_of_in Z q5 q6,PySem.W.tail_of_in Z q4⟩
  next=>cases q
 next=>cases q
theorem Tp{x:Str}{np cpos pos:Pos}{e:ah}{es:List ah}{fs:aH->Rs (List D)}{C:ae}{bmB bmN:List aa}{Bn Bb newId nid inN initId:String}
  (hp:Bl X W) (hex:X.ex=[]) (hc:X.calm=true) (hg:Gl X x) (hm:X.mg x=some (.ref C)) (hn:ip X.K bu x=some (some (.ref C))) (q:uA X.K C bmB newId=true)
  (Fn:ExcBaseFacts Bn newId inN bmN) (hBn:bmB.contains (.type Bn)=true) (FB:ExcBaseFacts Bb nid initId bmB)
  (ha:SA X B W (e::es) fs) (hlen:(e::es).length<=1000) (hdb:uN x:=by decide) (he:bg (e::es) X.env=(false,aS e X.env)::bg es X.env:=by rfl) (hpl:(dt cpos (bg es X.env)).any (·.1)=false:=by rfl) :
  SS X B W (.Raise (some (.Call (.Name x np) (e::es) [] cpos)) none pos) (fun ρ=>oR (fs ρ) ρ fun ds=>if ds.length<=1000 then .ex x 0 ρ else .no):=by
 intro pins s σ H De I ⟨ρ,G,sr,p⟩;obtain⟨tl,N,nm,qn,bs,hdct,sn,sub,ab,col,dd,k0,k1,k2,k3,k5,mN,hC,hN,hni,T⟩:=YW I.ok.mod.Rt q;refine wpAny_Raise_call_subU (C:=C) (nm:=nm) (q:=qn) (N:=N) (bs:=bs) (bm:=tl) (hdct:=hdct) (sn:=sn) (sub:=sub) (ab:=ab) (col:=col) (dd:=dd) (k0:=k0) (k1:=k1) (k2:=k2) (k3:=k3) (k5:=k5)
  Fn hBn FB (mN:=mN) (T.hasType FB.hasBase) (I.ok.hd hc) (by rw[he];show(false || (dt cpos (bg es X.env)).any (·.1))=false;rw[hpl];rfl) hni (xQ I hg hm ⟨rfl,?_⟩ hdb)
 have h2:tAF X.K B W fs σ H fun vs H1=>vs.length<=1000/\W x 0 σ H1:=by
  refine⟨ρ,G,sr,?_⟩;dsimp only at p;cases e:fs ρ with
  |ok ds =>
   rw[e]at p;dsimp only[oR]at p;by_cases hl:ds.length<=1000
   ·rw[if_pos hl]at p;exact fun vs H1 G1 y r=>⟨by rw[<- r.length];exact hl,p σ H1 G1 (sr.ext y) y.gg⟩
   ·rw[if_neg hl]at p;exact p.elim
  |ex c n=>rw[e]at p;exact fun H1 G1 y=>p σ H1 G1 (sr.ext y) y.gg
  |no=>rw[e]at p;exact p
 have h3:=ha cpos pins s σ H _ I h2;rw[he]at h3 ⊢;refine qh (dS h3 (fun us s2 ⟨vs,H1,I1,r,hl,w⟩=>⟨rfl,by rw[<- r.length];exact yK hl,I1.bk _ _ hC,hN.keeps I1.bk,T.keeps I1.bk,fun h' ea hm'=>?_⟩) fun _ _ y=>y);have I2:Inv X pins σ H1 { s2 with heap:=h' }:=I1.kept (t':=s2.toks) hm'.keeps;obtain⟨t,h1,h2',h3'⟩:=hm'.there;have new:s2.heap.get? ea=none:=hm'.new;refine hp pins σ H1 _ ea x 0 false I2 ⟨C,_,_,_,hn,h1,rfl,rfl,rfl,?_,?_,fun z=>?_,.inl rfl,?_⟩ w
 ·cases z:H1 ea with
  |none=>rfl
  |some u=>obtain⟨o,z⟩:=sV (I1.hok _ _ z);rw[new]at z;cases z
 ·cases z:X.s₀.heap.get? ea with
  |none=>rfl
  |some o=>obtain⟨o',z⟩:=I1.base.there _ o z (by rw[hex];simp);rw[new]at z;cases z
 ·obtain⟨p,hp,e⟩:=eQ.mp z;have:=(I1.pin p hp).1;rw[e,new]at this;cases this
 ·rw[if_neg (by decide)];rfl
end
noncomputable def Yl(K:ai)(J:It)(ds:List D)(G:Hp):Prop:=∀(i:Nat) (G1 H1:Hp),Same G G1->Ext G1 H1 G1 H1 ->
 (∀d,ds[i]?=some d->J.go i H1/\∀x H2,J.yld i H1 x H2->∃G2,Ext G1 H1 G2 H2/\Rep K G2 d x)/\(ds.length<=i->J.stop i H1)
noncomputable def Mz(K:ai)(W:Wi)(σ:St)(G H:Hp)(r:Rs (List D))(R:It->Hp->Prop):Prop :=
 match r with
 | .ok ds=>∀J H' G',Ext G H G' H'->Yl K J ds G'->R J H'
 | .ex c n=>∀H' G',Ext G H G' H'->W c n σ H'
 | .no=>False
noncomputable def tI(K:ai)(B:Bs)(W:Wi)(f:aH->Rs (List D)):TI:=fun σ H R=>∃ρ G,SR K B σ H ρ G/\Mz K W σ G H (f ρ) R
noncomputable def SI(X:Cx)(B:Bs)(W:Wi)(tg iter:ah)(f:aH->Rs (List D)):Prop:=PI X tg iter (tI X.K B W f)
noncomputable def asL:D->Rs (List D)
 | .lst ds=>.ok ds
 |_=>.no
noncomputable def Rk:D->Rs (List D)
 | .tup ds=>.ok ds
 |_=>.no
section
variable{X:Cx}{K:ai}{B:Bs}{W:Wi}{σ:St}{G H:Hp}{ρ:aH}{tg iter:ah}{f:aH->Rs D}
theorem PI.imp{t t':TI}(h:PI X tg iter t)(i:∀σ H R,t' σ H R->t σ H R):PI X tg iter t':=fun pins s σ H R I q=>h pins s σ H R I (i σ H R q)
theorem acz{a:ae}{ds:List D}{vs:List V}(q:jT K G a vs)(r:bF K G ds vs):Yl K (Itt K a) ds G:=by intro i G1 H1 gg e;have q1:=Same.cV e.gh (Same.cV gg q);refine⟨fun d hd=>?_,fun hl=>⟨vs,q1,by rw[<- r.length];exact hl⟩⟩;obtain⟨v,hv,rv⟩:=r.get hd;refine⟨⟨vs,v,q1,hv⟩,fun x H2 y=>?_⟩;obtain⟨e2,y⟩:=y;subst e2;have:=y vs q1;rw[hv]at this;cases this;exact⟨G1,e,rv.mono gg⟩
theorem Dr{as:D->Rs (List D)}{r:Rs D}{R:It->Hp->Prop}{Q:VK}(p:Mz K W σ G H (r.bind as) R)(h:∀d v H' G' ds,as d=.ok ds->Ext G H G' H'->Rep K G' d v->(∀J CZ G'',Ext G' H' G'' CZ->Yl K J ds G''->R J CZ)->Q v H')(hn:∀d c n,as d≠.ex c n):Post K W σ G H r Q:=by
 cases r with
 |ok d =>
  intro v H' G' e rv;have p':Mz K W σ G H (as d) R:=p;cases e1:as d with
  |ok ds=>rw[e1]at p';exact h d v H' G' ds e1 e rv fun J CZ G'' e' y=>p' J CZ G'' (e.trans e') y
  |ex c n=>exact(hn d c n e1).elim
  |no=>rw[e1]at p';exact p'.elim
 |ex c n=>exact p
 |no=>exact p
theorem YX(hi:SE X B W iter f):SI X B W tg iter (fun ρ=>(f ρ).bind asL):=by
 refine PI.imp (Ma hi) fun σ H R ⟨ρ,G,s,p⟩=>⟨ρ,G,s,Dr p (fun d v H' G' ds e1 e rv k=>?_) (fun d c n z=>by cases d <;> cases z)⟩
 cases d with
 |lst es =>
  cases e1;obtain⟨a,vs,rfl,q,rr⟩:=bJ.mp rv;refine⟨a,rfl,⟨vs,e.gh.seq q⟩,k _ H' G' (.refl e.gh e.tp) ?_⟩;intro i G1 H1 gg e';have q1:=e'.gh.seq (gg.seq q);refine⟨fun d hd=>?_,fun hl=>⟨vs,q1,by rw[<- rr.length];exact hl⟩⟩;obtain⟨v,hv,rv⟩:=rr.get hd;refine⟨⟨vs,v,q1,hv⟩,fun x H2 y=>?_⟩;obtain⟨e2,y⟩:=y;subst e2;have:=y vs q1;rw[hv]at this;cases this;exact⟨G1,e',rv.mono gg⟩
 |_=>cases e1
theorem acA(hi:SE X B W iter f):SI X B W tg iter (fun ρ=>(f ρ).bind Rk):=by
 refine PI.imp (Jr hi) fun σ H R ⟨ρ,G,s,p⟩=>⟨ρ,G,s,Dr p (fun d v H' G' ds e1 e rv k=>?_) (fun d c n z=>by cases d <;> cases z)⟩
 cases d with
 |tup es =>
  cases e1;obtain⟨a,vs,rfl,q,rr⟩:=bR.mp rv;exact⟨a,rfl,⟨vs,Same.cV e.gh q⟩,k _ H' G' (.refl e.gh e.tp) (acz q rr)⟩
 |_=>cases e1
noncomputable def Gr(ρ:aH):Prop:=∀(i:Nat) (z:Sl),ρ[i]?=some z->z.own=true->False
noncomputable def nZ(h:Tg):Prop:=∀d ρ ρ',Gr ρ->h d ρ=some ρ'->Gr ρ'
noncomputable def dG(nt:Nat)(caps:List Nat)(ρ:aH):aH:=i5 nt .no++caps.map fun i=>match ρ[i]? with|some (.fz d)=>.fz d|_=>.no
noncomputable def dX(h:Tg)(ft:aH->Rs Bool)(fe:aH->Rs D):List D->aH->Rs (List D)
 | [],_=>.ok []
 |d::ds,ρ=>match h d ρ with
  |none=>.no
  |some ρ1=>(ft ρ1).bind fun b=>if b=true then (fe ρ1).bind fun y=>(dX h ft fe ds ρ1).bind fun ys=>.ok (y::ys) else dX h ft fe ds ρ1
theorem pD{nt:Nat}{caps:List Nat}{ρ:aH}:Gr (dG nt caps ρ):=fun i z q w=>by
 unfold dG at q;by_cases hi:i < (i5 nt Sl.no).length
 ·rw[i7 hi,ml]at q;split at q <;> cases q;cases w
 ·rw[i6 (by lia),cK]at q;cases e:caps[i - (i5 nt Sl.no).length]? with
  |none=>rw[e]at q;cases q
  |some k =>
   rw[e]at q;have q':(match ρ[k]? with|some (.fz d)=>Sl.fz d|_=>.no)=z:=dk q;split at q' <;> (subst q';cases w)
theorem YZ{nt:Nat}{caps:List Nat}{p:ae}(s:SR K B σ H ρ G)(hp:H p=none):SR K ⟨G,H,0⟩ (qu nt caps σ) (upd H p (.lst [])) (dG nt caps ρ) G:=by
 refine⟨CW s.en.gh s.en.tp hp,by simp[qu,dG],fun i d q=>?_,fun i z q w=>(pD i z q w).elim,fun i j z z' a q w=>(pD i z q w).elim,fun i ds a q=>(pD i _ q rfl).elim,s.co.same (CW s.en.gh s.en.tp hp).hh⟩;unfold dG at q;unfold qu;by_cases hi:i < nt
 ·rw[i7 (by simpa using hi),ml]at q;split at q <;> cases q
 ·rw[i6 (by simpa using hi),cK,oq]at q;rw[i6 (by simpa using hi),cK,oq];cases e:caps[i - nt]? with
  |none=>rw[e]at q;cases q
  |some k =>
   rw[e]at q;have q':(match ρ[k]? with|some (.fz d)=>Sl.fz d|_=>.no)=.fz d:=dk q;cases e2:ρ[k]? with
   |none=>rw[e2]at q';cases q'
   |some z =>
    rw[e2]at q';cases z with
    |fz d' =>
     cases q';obtain⟨v,h1,h2⟩:=s.fz k _ e2;exact⟨v,by simp[h1],h2⟩
    |no=>cases q'
    |ow _=>cases q'
    |od _=>cases q'
    |op _=>cases q'
theorem SR.off{p:ae}{vs us:List V}(s:SR K B σ H ρ G)(hn:Gr ρ)(hp:H p=some (.lst vs))(g:G p=none)(b:B.2 p=none):SR K B σ (upd H p (.lst us)) ρ G:=by
 refine⟨⟨s.en.gg,fun c o z=>?_,fun c o z=>?_,fun c xs z=>?_,s.en.nw⟩,s.len,s.fz,fun i z q w=>(hn i z q w).elim,fun i j z z' a q w=>(hn i z q w).elim,fun i ds a q=>(hn i _ q rfl).elim,s.co.upd hp (fun _ z=>by cases z)⟩
 ·rw[aK (aP z b)];exact s.en.hh c o z
 ·rw[aK (aP z g)];exact s.en.gh c o z
 ·by_cases w:c=p
  ·subst w;rw[aW]at z;cases z
  ·rw[aK w]at z;exact s.en.tp c xs z
noncomputable def dZ(h:Tg)(ft:aH->Rs Bool)(fe:aH->Rs D)(nt:Nat)(caps:List Nat)(f:aH->Rs (List D)):aH->Rs D:=fun ρ =>
 (f ρ).bind fun ds=>kh ((dX h ft fe ds (dG nt caps ρ)).bind fun ys=>if ys.length<=1000000 then .ok (.lst ys) else .no)
noncomputable def sW(h:Tg)(ft:aH->Rs Bool)(fe:aH->Rs D)(nt:Nat)(caps:List Nat)(f:aH->Rs (List D)):aH->Rs D:=fun ρ =>
 (f ρ).bind fun ds=>match dX h ft fe ds (dG nt caps ρ) with
  | .ok ys=>if ys.length<=1000000 then .ok (.lst ys) else .no
  | .ex c n=>if ds.length<=1000000 then .ex c n else .no
  | .no=>.no
theorem Bo{h:Tg}{ft:aH->Rs Bool}{fe:aH->Rs D}:∀{ds:List D}{ρ:aH},dX h (fun ρ=>kh (ft ρ)) (fun ρ=>kh (fe ρ)) ds ρ=kh (dX h ft fe ds ρ)
 | [],_=>rfl
 |d::ds,ρ=>by
  unfold dX;cases h d ρ with
  |none=>rfl
  |some ρ1 =>
   have ih:=Bo (h:=h) (ft:=ft) (fe:=fe) (ds:=ds) (ρ:=ρ1);dsimp only;generalize dX h (fun ρ=>kh (ft ρ)) (fun ρ=>kh (fe ρ)) ds ρ1=x at ih ⊢;generalize dX h ft fe ds ρ1=y at ih ⊢;subst ih;cases ft ρ1 with
   |ok b =>
    cases b with
    |true =>
     cases fe ρ1 with
     |ok z=>cases y <;> rfl
     |_=>rfl
    |false=>rfl
   |_=>rfl
theorem MF{h:Tg}{ft:aH->Rs Bool}{fe:aH->Rs D}{nt:Nat}{caps:List Nat}{f:aH->Rs (List D)}:dZ h ft fe nt caps f=sW h (fun ρ=>kh (ft ρ)) (fun ρ=>kh (fe ρ)) nt caps f:=funext fun ρ=>by
 unfold dZ sW;cases f ρ with
 |ok ds =>
  dsimp only[Rs.bind];rw[Bo];cases dX h ft fe ds (dG nt caps ρ) with
  |ok ys=>show kh (if ys.length<=1000000 then _ else _)=if ys.length<=1000000 then _ else _;by_cases c:ys.length<=1000000 <;> simp only[c,if_true,if_false] <;> rfl
  |_=>rfl
 |_=>rfl
theorem Ds{α:Type}{r:Rs α}{c:Str}{n:Int}(e:kh r=.ex c n):False:=by cases r <;> cases e
theorem MJ{e:ah}{f:aH->Rs D}(h:SE X.Pa B WF e f):SE X B W e (fun ρ=>kh (f ρ)) :=
 fun pins s σ H Q I ⟨ρ,G,sr,p⟩=>PE.Pa h pins s σ H Q I ⟨ρ,G,sr,by dsimp only at p;cases e:f ρ <;> (rw[e]at p;first|exact p|exact p.elim)⟩
theorem MK{e:ah}{f:aH->Rs Bool}(h:ST X B WF e f):ST X B WF e (fun ρ=>kh (f ρ)) :=
 fun pins s σ H Q I ⟨ρ,G,sr,p⟩=>h pins s σ H Q I ⟨ρ,G,sr,by dsimp only at p;cases e:f ρ <;> (rw[e]at p;first|exact p|exact p.elim)⟩
noncomputable def Px(X:Cx)(W:Wi):Prop:=Bl X W/\X.ex=[]/\∃outer L,X.stack=X.env::outer/\X.env.frame=some L
theorem Za{old h h':Heap}{av:List ae}{ea C:ae}{c:Str}{n:Int}{tr:Bool}{m:Str->Option aa}(F:Dp K old av ea c n h H tr)(hn:h.Ns C m)(hs:fI C h h'):Dp K old av ea c n h' H tr:=by
 have ne:∀b o (vs:Array aa),h.get? b=some o->o.data=.fields vs->h'.get? b=some o:=fun b o vs e d=>(hs.2 b fun z=>by
  obtain⟨o',es,ep,ho,hd,_⟩:=hn;rw[z,ho]at e;cases e;rw[hd]at d;cases d).trans e
 obtain⟨D,oe,vs,a0,h1,h2,h3,h4,h5,h6,h7,h8,h9,h10⟩:=F;refine⟨D,oe,vs,a0,h1,ne _ _ _ h2 h4,h3,h4,h5,h6,h7,h8,h9,?_⟩;cases tr with
 |false=>exact h10
 |true =>
  rw[if_pos rfl]at h10 ⊢;obtain⟨T,oT,ts,x,t1,t2,t3,t4,t5⟩:=h10;exact⟨T,oT,ts,x,t1,t2,ne _ _ _ t3 t4,t4,t5⟩
theorem Dt{prog:aE}{w:az}{A:aI}{E:aa->af->Prop}{s:af}{env:Env}{Q:Bool->af->Prop}(h:Q true s) :
  ar (ax prog w) A (forIn ([]:List ah) true fun c r=>if r=true then do let ok <- isTrue c env (aS c env);pure (ForInStep.yield ok) else pure (ForInStep.yield r)) Q E s:=by
 simp only[uB];exact a_ h
theorem Bp{elt:ah}{ifs:List ah}{sc:Scope}{pos:Pos}{N:List Str}{nt:Nat}{caps:List Nat}{h:Tg}{ft:aH->Rs Bool}{fe:aH->Rs D}{fi:aH->Rs (List D)}
  (c:rR X sc N nt caps) (hc:X.calm=true) (hnames:∀y∈sc.names,y.2=.local->sc.names.lookup y.1=some .local) (hi:SI X B W tg iter fi) (hno:nZ h)
  (ht:∀s₀ H₀ C ex pins B',SG (fW X N s₀ H₀ sc (dF sc X.env) C ex pins) B' tg h)
  (hif:(ifs=[]/\ft=fun _=>.ok true)∨∃c,ifs=[c]/\(∀ρ c n,ft ρ≠.ex c n)/\∀s₀ H₀ C ex pins B',ST (fW X N s₀ H₀ sc (dF sc X.env) C ex pins) B' WF c ft)
  (he:∀s₀ H₀ C ex pins B' E W',sH ((fW X N s₀ H₀ sc (dF sc X.env) C ex pins).wish E) W'->SE ((fW X N s₀ H₀ sc (dF sc X.env) C ex pins).wish E) B' W' elt fe)
  (hx:(∀ρ c n,fe ρ≠.ex c n)∨Px X W) (hs:∀x,gc iter X.env x=pure x)
  {use:Option (aa->Sem Unit)}{QQ:aa->af->Prop}{pins:List (ae×Obj)}{s:af}{σ:St}{H G:Hp}{ρ:aH}(I:Inv X pins σ H s) (sr:SR X.K B σ H ρ G)
  (p:match sW h ft fe nt caps fi ρ with
   | .ok d=>∀(D' C:ae) (H' G':Hp) (s5:af) (fl:Flow),Ext G H G' H'->Rep X.K G' d (.ref D')->(∃m,s5.heap.Ns C m)->mj X pins H' C->(∀h',fI C s5.heap h'->Inv X pins σ H' { s5 with heap:=h' })->compPost (ax X.prog X.w) X.A X.xe use QQ (.ref D') C (.ok fl) s5
   | .ex c n=>∀H' G',Ext G H G' H'->W c n σ H'
   | .no=>False) :
  ar (ax X.prog X.w) X.A (comprehension (.ListComp elt [⟨tg,iter,ifs,0⟩] sc pos) sc X.env (firstIterPos [⟨tg,iter,ifs,0⟩] pos) (newList []) (firstAsync [⟨tg,iter,ifs,0⟩]) (firstIter [⟨tg,iter,ifs,0⟩] X.env) use) QQ X.xe s:=by
 refine wpAny_comprehension_free (use:=use) (cl:=dF sc X.env) rfl hs (pX (c.cells I)) c.kind hnames ?_;show ar (ax X.prog X.w) X.A (aS iter X.env) _ X.xe s
 let PP:List D->Rs (List D)->Prop:=fun ds r=>match r with
  | .ok YS=>YS.length<=1000000/\∀(D' C:ae) (H' G':Hp) (s5:af) (fl:Flow),Ext G H G' H'->Rep X.K G' (.lst YS) (.ref D')->(∃m,s5.heap.Ns C m)->mj X pins H' C->(∀h',fI C s5.heap h'->Inv X pins σ H' { s5 with heap:=h' })->compPost (ax X.prog X.w) X.A X.xe use QQ (.ref D') C (.ok fl) s5
  | .ex c n=>ds.length<=1000000/\∀H' G',Ext G H G' H'->W c n σ H'
  | .no=>False
 refine dS (hi pins s σ H (fun J H2=>∃G2 ds,Ext G H G2 H2/\Yl X.K J ds G2/\PP ds (dX h ft fe ds (dG nt caps ρ))) I ⟨ρ,G,sr,?_⟩) (fun v s1 h1=>dS h1 (fun itv s2 h2=>?_) fun _ _ z=>z) fun _ _ z=>z
 ·unfold sW at p;cases e:fi ρ with
  |ok ds =>
   rw[e]at p;dsimp only[Rs.bind]at p;refine fun J H' G' x y=>⟨G',ds,x,y,?_⟩
   cases e:dX h ft fe ds (dG nt caps ρ) with
   |ok YS =>
    rw[e]at p;by_cases hl:YS.length<=1000000
    ·simp only[if_pos hl]at p;exact⟨hl,p⟩
    ·simp only[if_neg hl]at p
   |ex c n =>
    rw[e]at p;by_cases hl:ds.length<=1000000
    ·simp only[if_pos hl]at p;exact⟨hl,p⟩
    ·simp only[if_neg hl]at p
   |no=>rw[e]at p;exact p.elim
  |ex c n=>rw[e]at p;exact p
  |no=>rw[e]at p;exact p
 obtain⟨it,fp,tn,J,H2,e,I2,T,st2,f2,G2,ds,x2,yl,hPP⟩:=h2;subst e;refine gz (wpAny_newFunctionEnv c.Dm (by intro y hy;simp at hy) (fun h₁ hns₁ hsb₁=>?_) c.kind);have hD2:H2 s2.heap.objs.size=none:=I2.fresh;have I3:=I2.aeO (ys:=[]) (its:=[]) (t':=s2.toks) .nil (by simp);have sr2:SR X.K B σ H2 ρ G2:=sr.ext x2;have fpl:∀b∈fp,b < s2.heap.objs.size:=fun b hb=>by obtain⟨o,ho,_⟩:=T.obj 0 _ st2 b hb;exact bE ho
 have hk:∀b o,(s2.heap.push { cls:=.type "list",data:=.seq ([]:List aa).toArray }).get? b=some o->h₁.get? b=some o:=fun b o z =>
  (hsb₁.2 b (ck (bE z))).trans (bS _ z)
 have afb:∀b∈fp,mj X pins (upd H2 s2.heap.objs.size (.lst [])) b/\b < (s2.heap.push { cls:=.type "list",data:=.seq ([]:List aa).toArray }).objs.size:=fun b hb=>by
  obtain⟨g1,g2⟩:=f2 b hb;refine⟨⟨?_,g2⟩,?_⟩
  ·rw[aK (ck (fpl b hb))];exact g1
  ·rw[i_];exact j8 (fpl b hb)
 have IY:=JB (h':=h₁) (tk:=s2.toks + ([]:List (Str×aa)).length) c I3 afb hns₁ hk;generalize hC:(s2.heap.push { cls:=.type "list",data:=.seq ([]:List aa).toArray }).objs.size=C at *;have srY:=YZ (nt:=nt) (caps:=caps) sr2 hD2;have stk:∀b,b≠X.env.locals->b∉X.fs->b∉oZ X.stack:=fun b h1 h2 h3=>(bP.mp (I2.sS b h3)).elim h1 h2;have hCl:s2.heap.objs.size + 1=C:=by rw[<- hC,i_]
 have stat:∀{H':Hp},(∀b∈fp,H' b=none)->∀b∈fp,mj (fW X N { s2 with heap:=s2.heap.push { cls:=.type "list",data:=.seq ([]:List aa).toArray },toks:=s2.toks } (upd H2 s2.heap.objs.size (.lst [])) sc (dF sc X.env) C fp pins) [] H' b:=fun {H'} hn b hb=>by
  obtain⟨_,g2,g3,g4,g5,g6⟩:=f2 b hb;refine⟨hn b hb,?_,stk b g2 g3,.inl hb,fun x a ha=>g5 x a (c.cl I2 ha),fun p hp=>?_⟩
  ·show b≠C;exact ck (hCl▸j8 (fpl b hb))
  ·rw[i4]at hp;exact g6 p hp
 let Y:=fW X N { s2 with heap:=s2.heap.push { cls:=.type "list",data:=.seq ([]:List aa).toArray },toks:=s2.toks } (upd H2 s2.heap.objs.size (.lst [])) sc (dF sc X.env) C fp pins
 let D':=s2.heap.objs.size
 have toX:∀{σ5:St}{H5:Hp}{s5:af},Inv Y [] σ5 H5 s5->∀h',fI C s5.heap h'->Inv X pins σ H5 { s5 with heap:=h' }:=fun {σ5 H5 s5} I5 h' hs'=>by
  have ne:∀b o,(s2.heap.push { cls:=.type "list",data:=.seq ([]:List aa).toArray }).get? b=some o->b≠C:=fun b o e z=>by have:=bE e;rw[hC,z]at this;exact fw _ this
  have U:=I5.base;refine I3.call' (ch:=fp) (s':={ s5 with heap:=h' }) I5.os ⟨fun b o e n hb hx=>?_,fun b o e n hb hx=>?_,U.free,fun b o e hx=>?_,U.tups,U.uO,U.wL⟩ (fun b o e=>?_) I5.bare fun b hb=>?_
  ·exact(hs'.2 b (ne b o e)).trans (U.keep b o e n hb hx)
  ·obtain⟨sl,q⟩:=U.slot b o e n hb hx;exact⟨sl,(hs'.2 b (ne b o e)).trans q⟩
  ·obtain⟨o',q⟩:=U.there b o e hx;exact⟨o',(hs'.2 b (ne b o e)).trans q⟩
  ·have fC:H5 C=none:=I5.free;refine(I5.hok b o e).stay (fun c' u' hc' q=>(hs'.2 c' ?_).trans q) (fun _ q=>q) (fun _ _ q=>q) fun _ _ q=>q;rintro rfl;rcases hc' with rfl|hc'
   ·rw[fC]at e;cases e
   ·rw[fC]at hc';cases hc'
  ·obtain⟨_,g2,_,g4,g5,g6⟩:=f2 b hb;exact⟨g4,g2,g5,g6⟩
 have hfx:∀ρ c n,ft ρ≠.ex c n:=by
  rcases hif with ⟨_,e2⟩|⟨_,_,h,_⟩
  ·subst e2;exact fun _ _ _ z=>nomatch z
  ·exact h
 let Jn:Nat->af->Prop:=fun n s4=>∃(i:Nat) (ρ':aH) (σ':St) (H' G':Hp) (Zb:List D) (Rm:List V),Inv Y [] σ' H' s4/\tn i s4.heap/\(∀b∈fp,H' b=none)/\SR X.K ⟨G2,H2,0⟩ σ' H' ρ' G'/\Gr ρ'/\H' D'=some (.lst Rm)/\G' D'=none /\
  bF X.K G' Zb Rm/\i<=ds.length/\n=ds.length - i/\Zb.length<=i/\PP ds ((dX h ft fe (ds.drop i) ρ').bind fun r=>.ok (Zb++r))
 have loop:∀(n:Nat) (s4:af),Jn n s4->fq (ax X.prog X.w) X.A (.compLoop (.ListComp elt [⟨tg,iter,ifs,0⟩] sc pos) 0 (.ref it) (.ref D') Y.env) (compPost (ax X.prog X.w) X.A X.xe use QQ (.ref D') C) s4:=by
  intro n0 s40 h0;refine Dl (J:=Jn) ?_ n0 h0;rintro n s4 ⟨i,ρ',σ',H',G',Zb,Rm,I4,Bq,fr4,Ro,no4,hD4,hG4,ry4,hi4,rfl,hyi,hcd⟩;by_cases hlt:i < ds.length
  ·obtain⟨yes,_⟩:=yl i G' H' Ro.en.gg Ro.uW;obtain⟨go,yields⟩:=yes ds[i] (by simp[hlt]);rw[iq hlt]at hcd;unfold dX at hcd;cases eh:h ds[i] ρ' with
   |none=>rw[eh]at hcd;exact hcd.elim
   |some ρ1 =>
    rw[eh]at hcd;dsimp only at hcd;refine iK (T.item Y rfl rfl rfl hc i [] s4 σ' H' (fun _ _=>False) I4 (stat fr4) Bq go) fun r s5 fj=>?_;obtain⟨u,hr,h5⟩:=fj;subst hr;refine iK h5 fun _ s6 fj=>?_;obtain⟨x,H6,I6,r6,y6,st6,fr6⟩:=fj;obtain⟨G6,e6,ahw⟩:=yields x H6 y6;have sr6:=Ro.ext e6;have I6':=I6.pinned (stat fr6) (T.obj _ _ st6);refine iK (ht _ _ _ _ _ ⟨G2,H2,0⟩ _ s6 σ' H6 x u (fun σ7 H7=>H7=H6/\SR X.K ⟨G2,H2,0⟩ σ7 H6 ρ1 G6) I6' r6 ⟨ρ',G6,ds[i],sr6,ahw,ρ1,eh,fun σ7 z=>⟨rfl,z⟩⟩) fun _ s7 fj=>?_;obtain⟨σ7,H7,I7,eH7,sr7⟩:=fj;subst eH7;have no7:=hno _ _ _ no4 eh;have again:∀{σ8:St}{H8:Hp}{s8:af},Inv Y ([]++uQ fp s6.heap) σ8 H8 s8->Inv Y [] σ8 H8 s8/\tn (i + 1) s8.heap/\∀b∈fp,H8 b=none:=fun {σ8 H8 s8} I8=>by refine⟨I8.tX,T.keep _ _ _ st6 fun b hb o e=>(I8.pin (b,o) (fg _ (fg _ (pA hb e)))).1,fun b hb=>?_⟩;obtain⟨o,e,d⟩:=T.obj _ _ st6 b hb;exact(I8.pin (b,o) (fg _ (fg _ (pA hb e)))).2.1
    obtain⟨b,hb,hcd⟩:∃b,ft ρ1=.ok b/\PP ds ((if b=true then (fe ρ1).bind fun y=>(dX h ft fe (ds.drop (i + 1)) ρ1).bind fun ys=>.ok (y::ys) else dX h ft fe (ds.drop (i + 1)) ρ1).bind fun r=>.ok (Zb++r)):=by
     cases e:ft ρ1 with
     |ok b=>rw[e]at hcd;exact⟨b,rfl,hcd⟩
     |ex c n=>exact(hfx _ _ _ e).elim
     |no=>rw[e]at hcd;exact hcd.elim
    have test:ar (ax X.prog X.w) X.A (forIn ifs true fun c r=>if r=true then do let ok <- isTrue c Y.env (aS c Y.env);pure (ForInStep.yield ok) else pure (ForInStep.yield r)) (TP Y ([]++uQ fp s6.heap) σ7 fun b' H8=>b'=b/\∃G8,Ext G6 H7 G8 H8) (fun _ _=>False) s7:=by
     rcases hif with ⟨e1,e2⟩|⟨cc,e1,_,hst⟩
     ·subst e1 e2;cases hb;exact Dt ⟨H7,I7,rfl,G6,sr7.uW⟩
     ·subst e1;refine wpAny_tests_one (hst _ _ _ _ _ ⟨G2,H2,0⟩ _ s7 σ7 H7 _ I7 ⟨ρ1,G6,sr7,?_⟩);rw[hb];exact fun H8 G8 e8=>⟨rfl,G8,e8⟩
    refine iK test fun ok s8 fj=>?_;obtain⟨H8,I8,eb,G8,e8⟩:=fj;subst eb;have sr8:=sr7.ext e8;have hD8:H8 D'=some (.lst Rm):=e8.hh _ _ (e6.hh _ _ hD4);have hG8:G8 D'=none:=e8.nw _ _ (e6.hh _ _ hD4) (e6.nw _ _ hD4 hG4);have ry8:=(ry4.mono e6.gg).mono e8.gg;cases ok with
    |true =>
     rw[if_pos rfl]at hcd ⊢
     let W1:Wi:=fun c n _ H9=>fe ρ1=.ex c n/\∃G9,Ext G8 H8 G9 H9
     let E1:aa->af->Prop:=fun e s'=>∃rZ σ' H' s1,Inv Y rZ σ' H' s1/\Bk X.prog X.w X.K X.stack H' s1 (fun v _ CZ=>∃c n,v=xW c n/\W1 c n σ' CZ) e s'
     refine dS (he _ _ _ _ _ ⟨G2,H2,0⟩ E1 W1 (fun rZ σ' H' s1 e s' I1 q=>⟨rZ,σ',H',s1,I1.lZ,q⟩) _ s8 σ7 H8 (fun v H9=>∃y G9,fe ρ1=.ok y/\Ext G8 H8 G9 H9/\Rep X.K G9 y v) (I8.wish E1) ⟨ρ1,G8,sr8,?_⟩) (fun u9 s9 ⟨v9,H9,I9,r9,y,G9,hy,e9,ahB⟩=>?_) (fun e s' q=>?_)
     ·cases e:fe ρ1 with
      |ok y=>exact fun v H9 G9 e9 r=>⟨y,G9,rfl,e9,r⟩
      |ex c n=>exact fun H9 G9 e9=>⟨e,G9,e9⟩
      |no=>rw[e]at hcd;exact hcd.elim
     rotate_left
     ·obtain⟨rZ,σ',H1,s1,I1,ea,c',n,H9,e1,os,bare,un,hok,F,c0,n0,e2,efe,G9,x9⟩:=q;subst e1;obtain⟨rfl,rfl⟩:=Mx e2;rcases hx with hx|⟨hp,hex,outer,L,hst,hf⟩
      ·exact(hx _ _ _ efe).elim
      rw[efe]at hcd;have J1:Inv Y [] σ' H1 s1:=I1.tV fun p z=>absurd z (by simp);have J9:Inv Y [] σ' H9 s':=J1.call' (ch:=[]) os un hok bare (fun b z=>absurd z (by simp));obtain⟨m,hm,_⟩:=J9.loc;have fpk:mj X pins H9 C:=I3.CJ (uC hC) J9.free;show ar _ X.A (kv (.ref ea) X.env) _ _ s';refine JC hst hf hex (toX J9 s'.heap (.refl C _)) (Tn (toX J1 s1.heap (.refl C _)) hex F) fun h' K2 F2 up=>?_;have dY:∃m,h'.Ns C m/\∀h'',fI C h' h''->∀cenv:Env,cenv.locals=C->ar (ax X.prog X.w) X.A (passOn "comprehension.variables-let-go" (.ref ea) cenv:Sem aa) (fun _ _=>False) X.xe { s' with heap:=h'' }:=⟨m,up.ns hm,fun h'' hs cenv _=>by
       have K3:=K2.turned (t':=s'.toks) (fun b o hb e=>(hs.2 b hb).trans e) fpk.1 fpk.2.1 fpk.2.2.2.1 fpk.2.2.2.2.1 fpk.2.2.2.2.2;have F3:=Za F2 (up.ns hm) hs;obtain⟨_,oe,vs,a0,_,g2,_,g4,_,_,_,_,_,g10⟩:=id F3;rw[if_pos rfl]at g10;obtain⟨T,_,_,_,t1,_⟩:=g10;unfold passOn;refine ag (ef g2 g4 t1 ?_);rw[if_neg (show ¬((aa.ref T == aa.none)=true) from by simp)];have go:ar (ax X.prog X.w) X.A (do oC (.ref ea) cenv.frame;throw (.ref ea):Sem aa) (fun _ _=>False) X.xe { s' with heap:=h'' }:=ag (Dq K3 F3 fun h3 K4 F4=>qv (hp pins σ H9 _ ea c' n true K4 F4 (hcd.2 H9 G9 (x2.trans (sr8.en.trans x9)))))
       first|exact go|exact ag (a_ go)⟩
      cases use <;> exact dY
     rw[hy]at hcd;have JD:PP ds ((dX h ft fe (ds.drop (i + 1)) ρ1).bind fun r=>.ok ((Zb++[y])++r)):=by
      cases e:dX h ft fe (ds.drop (i + 1)) ρ1 with
      |ok ys=>rw[e]at hcd;dsimp only[Rs.bind]at hcd ⊢;rw[j9];exact hcd
      |ex c n=>rw[e]at hcd;exact hcd
      |no=>rw[e]at hcd;exact hcd
     have hD9:=e9.hh _ _ hD8;have hG9:=e9.nw _ _ hD8 hG8;have ryl:=ry8.length;have hYl:Zb.length < 1000000:=by
      cases e:dX h ft fe (ds.drop (i + 1)) ρ1 with
      |ok ys =>
       rw[e]at JD;have:=JD.1;simp only[dE,cq]at this;lia
      |ex c n=>rw[e]at JD;have:=JD.1;lia
      |no=>rw[e]at JD;exact JD.elim
     refine iK (uU (X:=Y) _ s9 σ7 H9 (.ref D') [v9] (.ref D') [u9] (fun _ H10=>H10=upd H9 D' (.lst (Rm++[v9]))) I9.lZ rfl (.cons r9 .nil) ⟨D',Rm,v9,rfl,rfl,hD9,by rw[<- ryl];exact dm hYl (by rw[eM];decide),rfl⟩) fun _ s10 fj=>?_;obtain⟨_,H10,I10,_,e10⟩:=fj;subst e10;obtain⟨J1,J2,J3⟩:=again I10;refine⟨ds.length - (i + 1),by lia,i + 1,ρ1,σ7,_,G9,Zb++[y],Rm++[v9],J1,J2,J3,(sr8.ext e9).off no7 hD9 hG9 hD2,no7,aW,hG9,(ry8.mono e9.gg).append (.one ahB),hlt,rfl,by rw[dE];exact Nat.succ_le_succ hyi,JD⟩
    |false =>
     rw[if_neg (by simp)]at hcd ⊢;obtain⟨J1,J2,J3⟩:=again I8;exact⟨ds.length - (i + 1),by lia,i + 1,ρ1,σ7,H8,G8,Zb,Rm,J1,J2,J3,sr8,no7,hD8,hG8,ry8,hlt,rfl,Nat.le_succ_of_le hyi,hcd⟩
  ·have ei:i=ds.length:=by lia
   subst ei;obtain⟨_,no⟩:=yl ds.length G' H' Ro.en.gg Ro.uW;rw[oB]at hcd;dsimp only[dX,Rs.bind]at hcd;rw[i4]at hcd;have hQ:=hcd.2;refine iK (T.done Y rfl rfl rfl hc ds.length [] s4 σ' H' (fun _ _=>False) I4 (stat fr4) Bq (no (bz _))) fun r s5 fj=>?_;obtain⟨hr,I5⟩:=fj;subst hr;obtain⟨m,hm,_⟩:=I5.loc;have fC0:H' C=none:=I5.free;refine hQ D' C H' (upd G' D' (.lst Rm)) s5 _ ?_ ?_ ⟨m,hm⟩ (I3.CJ (uC hC) fC0) (toX I5)
   ·have gg:Same G' (upd G' D' (.lst Rm)):=fun b o z=>by rw[aK (aP z hG4)];exact z
    refine⟨(x2.gg.trans Ro.en.gg).trans gg,x2.hh.trans Ro.en.hh,fun b o z=>?_,fun b xs z=>?_,fun b o z w=>?_⟩
    ·by_cases e:b=D'
     ·subst e;rw[aW]at z;cases z;exact hD4
     ·rw[aK e]at z;exact Ro.en.gh b o z
    ·by_cases e:b=D'
     ·subst e;rw[hD4]at z;cases z
     ·rw[aK e];exact Ro.en.tp b xs z
    ·have z2:=x2.hh b o z;rw[aK (aP z2 hD2)];exact Ro.en.nw b o z2 (x2.nw b o z w)
   ·have gg:Same G' (upd G' D' (.lst Rm)):=fun b o z=>by rw[aK (aP z hG4)];exact z
    exact bJ.mpr ⟨D',Rm,rfl,.of aW,ry4.mono gg⟩
 have first:∀tk,Jn ds.length { s2 with heap:=h₁,toks:=tk }:=fun tk=>by have IY':Inv Y [] (qu nt caps σ) (upd H2 s2.heap.objs.size (.lst [])) { s2 with heap:=h₁,toks:=tk }:=IY.tok tk;refine⟨0,dG nt caps ρ,qu nt caps σ,upd H2 D' (.lst []),G2,[],[],IY',T.keep _ _ _ st2 fun b hb o e=>hk b o (bS _ e),fun b hb=>(afb b hb).1.1,srY,pD,aW,sr2.en.gh.free hD2,bf.mpr rfl,fR _,rfl,bz _,by cases e:dX h ft fe ds (dG nt caps ρ) <;> (rw[e]at hPP;simpa[e,Rs.bind] using hPP)⟩
 exact codeAny_compStart_list (loop _ _ (first _)) (T.self _ 0 _ _ _ (T.keep _ _ _ st2 fun b hb o e=>hk b o (bS _ e)) (loop _ _ (first _)))
theorem Tq{elt:ah}{ifs:List ah}{sc:Scope}{pos:Pos}{N:List Str}{nt:Nat}{caps:List Nat}{h:Tg}{ft:aH->Rs Bool}{fe:aH->Rs D}{fi:aH->Rs (List D)}
  (c:rR X sc N nt caps) (hc:X.calm=true) (hnames:∀y∈sc.names,y.2=.local->sc.names.lookup y.1=some .local) (hi:SI X B W tg iter fi) (hno:nZ h)
  (ht:∀s₀ H₀ C ex pins B',SG (fW X N s₀ H₀ sc (dF sc X.env) C ex pins) B' tg h)
  (hif:(ifs=[]/\ft=fun _=>.ok true)∨∃c,ifs=[c]/\(∀ρ c n,ft ρ≠.ex c n)/\∀s₀ H₀ C ex pins B',ST (fW X N s₀ H₀ sc (dF sc X.env) C ex pins) B' WF c ft)
  (he:∀s₀ H₀ C ex pins B' E W',sH ((fW X N s₀ H₀ sc (dF sc X.env) C ex pins).wish E) W'->SE ((fW X N s₀ H₀ sc (dF sc X.env) C ex pins).wish E) B' W' elt fe)
  (hx:(∀ρ c n,fe ρ≠.ex c n)∨Px X W)
  (hs:∀x,gc iter X.env x=pure x:=by intro _;rfl) :
  SE X B W (.ListComp elt [⟨tg,iter,ifs,0⟩] sc pos) (sW h ft fe nt caps fi):=by
 intro pins s σ H Q I hw;obtain⟨ρ,G,sr,p⟩:=hw;rw[eval_ListComp];refine Bp c hc hnames hi hno ht hif he hx hs I sr ?_;cases e:sW h ft fe nt caps fi ρ with
 |ok d =>
  rw[e]at p;intro D' C H' G' s5 fl x r ⟨m,hm⟩ _ IX;exact⟨m,hm,fun h' hs'=>⟨.ref D',H',IX h' hs',rfl,p _ _ _ x r⟩⟩
 |ex c n=>rw[e]at p;exact p
 |no=>rw[e]at p;exact p
theorem Zc{elt:ah}{ifs:List ah}{sc:Scope}{pos:Pos}{N:List Str}{nt:Nat}{caps:List Nat}{h:Tg}{ft:aH->Rs Bool}{fe:aH->Rs D}{fi:aH->Rs (List D)}
  (c:rR X sc N nt caps) (hc:X.calm=true) (hnames:∀y∈sc.names,y.2=.local->sc.names.lookup y.1=some .local) (hi:SI X B W tg iter fi) (hno:nZ h)
  (ht:∀s₀ H₀ C ex pins B',SG (fW X N s₀ H₀ sc (dF sc X.env) C ex pins) B' tg h)
  (hif:(ifs=[]/\ft=fun _=>.ok true)∨∃c,ifs=[c]/\∀s₀ H₀ C ex pins B',ST (fW X N s₀ H₀ sc (dF sc X.env) C ex pins) B' WF c ft)
  (he:∀s₀ H₀ C ex pins B',SE (fW X N s₀ H₀ sc (dF sc X.env) C ex pins) B' WF elt fe)
  (hs:∀x,gc iter X.env x=pure x:=by intro _;rfl) :
  SE X B W (.ListComp elt [⟨tg,iter,ifs,0⟩] sc pos) (dZ h ft fe nt caps fi):=by
 rw[MF];exact Tq c hc hnames hi hno ht (hif.imp (fun⟨a,b⟩=>⟨a,by rw[b];rfl⟩) fun⟨c,a,b⟩=>⟨c,a,fun _ _ _=>Ds,fun s₀ H₀ C ex pins B'=>MK (b s₀ H₀ C ex pins B')⟩) (fun s₀ H₀ C ex pins B' E W' _=>MJ (he s₀ H₀ C ex pins B')) (.inl fun _ _ _=>Ds) hs
theorem yQ{i:Nat}{y:Str}{py spos:Pos}{elt:ah}{ifs:List ah}{sc:Scope}{pos:Pos}{N:List Str}{nt:Nat}{caps:List Nat}{h:Tg}{ft:aH->Rs Bool}{fe:aH->Rs D}{fi:aH->Rs (List D)}
  (hN:X.N.Nodup) (hi':X.N[i]?=some y) (hx:FT X.env.scope y)
  (c:rR X sc N nt caps) (hc:X.calm=true) (hnames:∀y∈sc.names,y.2=.local->sc.names.lookup y.1=some .local) (hi:SI X B W tg iter fi) (hno:nZ h)
  (ht:∀s₀ H₀ C ex pins B',SG (fW X N s₀ H₀ sc (dF sc X.env) C ex pins) B' tg h)
  (hif:(ifs=[]/\ft=fun _=>.ok true)∨∃c,ifs=[c]/\∀s₀ H₀ C ex pins B',ST (fW X N s₀ H₀ sc (dF sc X.env) C ex pins) B' WF c ft)
  (he:∀s₀ H₀ C ex pins B',SE (fW X N s₀ H₀ sc (dF sc X.env) C ex pins) B' WF elt fe)
  (hs:∀x,gc iter X.env x=pure x) (hsw:eW (.ListComp elt [⟨tg,iter,ifs,0⟩] sc pos) (some (.Name y py)) spos.line X.env=pure true)
  (hf:X.fn y=true∨X.env.scope.names.lookup y=some .local) :
  SS X B W (.Assign [.Name y py] (.ListComp elt [⟨tg,iter,ifs,0⟩] sc pos) spos) (fun ρ=>oR (dZ h ft fe nt caps fi ρ) ρ fun d=>.nx (ρ.set i (.fz d))):=by
 intro pins s σ H De I hw;obtain⟨ρ,G,sr,p⟩:=hw;dsimp only at p;rw[MF]at p;rw[exec_Assign_Name_used _ _ _ _ hsw];refine ag (td (ag ?_));show ar _ X.A (do let _ <- comprehension (.ListComp elt [⟨tg,iter,ifs,0⟩] sc pos) sc X.env _ (newList []) _ _ (some (assign (.Name y py) X.env))) _ _ s;refine ag (dS (Bp (QQ:=fun _ s'=>_) c hc hnames hi hno ht (hif.imp (fun⟨a,b⟩=>⟨a,by rw[b];rfl⟩) fun⟨c,a,b⟩=>⟨c,a,fun _ _ _=>Ds,fun s₀ H₀ C ex pins B'=>MK (b s₀ H₀ C ex pins B')⟩) (fun s₀ H₀ C ex pins B' E W' _=>MJ (he s₀ H₀ C ex pins B')) (.inl fun _ _ _=>Ds) hs I sr ?_) (fun _ s' hq=>a_ (a_ hq)) fun _ _ e=>e);cases e:sW h (fun ρ=>kh (ft ρ)) (fun ρ=>kh (fe ρ)) nt caps fi ρ with
 |ok d =>
  rw[e]at p;intro D' C H' G' s5 fl x r ⟨m,hm⟩ fp IX;have I5:Inv X pins σ H' s5:=IX s5.heap (fI.refl C s5.heap);refine wpAny_assign_Name (Ay I5 hN hi' hx (show RelV (.ref D') (.ref D') from rfl) (fun s6 I6 ⟨a,hs6,ha⟩=>?_) hf);have hCa:C≠a:=by
   rcases ha with rfl|ha
   ·exact fp.2.1
   ·exact b_ (fp.2.2.2.2.1 _ _ ha)
  refine⟨m,hm.sameBut hs6 hCa,fun h' hs'=>?_⟩;exact⟨_,H',I6.turned (t':=s6.toks) (fun b o hb e=>(hs'.2 b hb).trans e) fp.1 fp.2.1 fp.2.2.2.1 fp.2.2.2.2.1 fp.2.2.2.2.2,p _ _ G' ((sr.ext x).set r) x.gg⟩
 |ex c n=>rw[e]at p;exact fun H' G' x=>p σ H' G' (sr.ext x) x.gg
 |no=>rw[e]at p;exact p
end
section
variable{X:Cx}{K:ai}{B:Bs}{W:Wi}{σ:St}{G H:Hp}{ρ:aH}{a b:ah}{pos p:Pos}{fa fb:aH->Rs D}
noncomputable def afe(K:ai)(n:Nat):R2:=fun x y H Q=>∃d d',Rep K H d x/\Rep K H d' y/\jl d<=n/\jl d'<=n/\Q (.bl (qe d d')) H
noncomputable def afg(K:ai)(n:Nat):R2:=fun x y H Q=>∃d d',Rep K H d x/\Rep K H d' y/\jl d<=n/\jl d'<=n/\Q (.bl (!qe d d')) H
theorem Tt{n:Nat}(hu:X.A.units + n < bX):tR X (gd .Eq) (afe X.K n):=by intro pins s σ H x y v u Q I rx ry ⟨d,d',r,r',hd,hd',q⟩;exact acd I hd hd' hu r r' rx ry X.prog X.w X.xe _ ⟨.bl _,H,I,rfl,q⟩
theorem acB{n:Nat}(hu:X.A.units + n < bX):tR X (gd .NotEq) (afg X.K n):=by intro pins s σ H x y v u Q I rx ry ⟨d,d',r,r',hd,hd',q⟩;exact Sh I hd hd' hu r r' rx ry X.prog X.w X.xe _ ⟨.bl _,H,I,rfl,q⟩
noncomputable def yR:D->D->Rs D:=fun x y=>if jl x<=8/\jl y<=8 then .ok (.bl (qe x y)) else .no
noncomputable def Zd:D->D->Rs D:=fun x y=>if jl x<=8/\jl y<=8 then .ok (.bl (!qe x y)) else .no
theorem Tv:Ms K (afe K 8) yR:=by
 intro B W σ ρ G H x y v u Q s rx ry p;unfold yR at p;by_cases h:jl x<=8/\jl y<=8
 ·rw[if_pos h]at p;exact⟨x,y,rx.mono s.en.gh,ry.mono s.en.gh,h.1,h.2,Post.ok s p (cJ.mpr rfl)⟩
 ·rw[if_neg h]at p;exact p.elim
theorem acC:Ms K (afg K 8) Zd:=by
 intro B W σ ρ G H x y v u Q s rx ry p;unfold Zd at p;by_cases h:jl x<=8/\jl y<=8
 ·rw[if_pos h]at p;exact⟨x,y,rx.mono s.en.gh,ry.mono s.en.gh,h.1,h.2,Post.ok s p (cJ.mpr rfl)⟩
 ·rw[if_neg h]at p;exact p.elim
theorem dH{k:Nat}(hr:lH k X.A):X.A.units + 8 < bX:=by have:=hr.un;lia
theorem MN(hu:X.A.units + 8 < bX)(ha:SE X B W a fa)(hb:SE X B W b fb):SE X B W (.Compare a [.Eq] [b] pos) (bH yR fa fb):=Jy (Tt hu) Tv ha hb (uT _)
theorem Gs(hu:X.A.units + 8 < bX)(ha:SE X B W a fa)(hb:SE X B W b fb):ST X B W (.Compare a [.Eq] [b] pos) (fT (bH yR fa fb)):=sU (Tt hu) Tv ha hb (uT _)
theorem afh(hu:X.A.units + 8 < bX)(ha:SE X B W a fa)(hb:SE X B W b fb):ST X B W (.Compare a [.NotEq] [b] pos) (fT (bH Zd fa fb)):=sU (acB hu) acC ha hb (uT _)
noncomputable def gLt:=gI0 fun i j=>D.bl (decide (i < j))
noncomputable def gLe:=gI0 fun i j=>D.bl (decide (i<=j))
noncomputable def gGt:=gI0 fun i j=>D.bl (decide (j < i))
noncomputable def gGe:=gI0 fun i j=>D.bl (decide (j<=i))
theorem afj(ha:SE X B W a fa)(hb:SE X B W b fb):ST X B W (.Compare a [.Lt] [b] pos) (fT (bH gLt fa fb)):=sU aeE (Dc fun _ _ _=>cJ.mpr rfl) ha hb (uT _)
theorem aaS(ha:SE X B W a fa)(hb:SE X B W b fb):ST X B W (.Compare a [.Gt] [b] pos) (fT (bH gGt fa fb)):=sU aeF (Dc fun _ _ _=>cJ.mpr rfl) ha hb (uT _)
theorem aaT(ha:SE X B W a fa)(hb:SE X B W b fb):ST X B W (.Compare a [.GtE] [b] pos) (fT (bH gGe fa fb)):=sU aeG (Dc fun _ _ _=>cJ.mpr rfl) ha hb (uT _)
inductive Ty where
 |int|bool|str|tuple|list|dict
noncomputable def Ty.nm:Ty->String
 | .int=>"int"|.bool=>"bool"|.str=>"str"|.tuple=>"tuple"|.list=>"list"|.dict=>"dict"
noncomputable def isD:D->Ty->Bool
 | .int _,.int=>true
 | .bl _,.bool=>true
 | .bl _,.int=>true
 | .str _,.str=>true
 | .tup _,.tuple=>true
 | .lst _,.list=>true
 |_,_=>false
noncomputable def tyD:D->String
 | .non=>"NoneType"|.bl _=>"bool"|.int _=>"int"|.str _=>"str"|.tup _=>"tuple"|.lst _=>"list"|.su _ _=>""|.sy _ _=>""|.fn _=>""|.obj _ _ _=>""
noncomputable def isX:D->Bool
 | .su _ _=>true
 | .sy _ _=>true
 | .fn _=>true
 | .obj _ _ _=>true
 |_=>false
theorem afl(d:D)(t:Ty)(hx:isX d=false):PySem.W.kitOne K (.type (tyD d)) (.type t.nm)=some (isD d t):=by
 cases d <;> first|(cases hx;done)|(cases t <;> kernel_rfl)
theorem acD{pins:List (ae×Obj)}{s:af}{A:aI}{E Q:aa->af->Prop}{d:D}{v:V}{u:aa}{t:Ty}(I:Inv X pins σ H s)(hx:isX d=false)(r:Rep X.K H d v)(rv:RelV v u)(h:∀tk,Q (.bool (isD d t)) { s with toks:=tk }) :
  ar (ax X.prog X.w) A (call (.builtin "isinstance") [u,.type t.nm]) Q E s:=by
 have e:=afl (K:=X.K) d t hx;cases d with
 |non=>rw[lJ.mp r]at rv;cases rv;exact m8 PySem.W.kitx_none I.Jl True.intro e (fun z=>nomatch z) h
 |bl y=>rw[cJ.mp r]at rv;cases rv;exact m8 PySem.W.kitx_bool I.Jl True.intro e (fun z=>nomatch z) h
 |int i=>rw[bA.mp r]at rv;obtain⟨t,rfl⟩:=rv;exact m8 PySem.W.kitx_int I.Jl True.intro e (fun z=>nomatch z) h
 |str i=>rw[pB.mp r]at rv;obtain⟨t,rfl⟩:=rv;exact m8 PySem.W.kitx_str I.Jl True.intro e (fun z=>nomatch z) h
 |tup ds =>
  obtain⟨a,vs,rfl,q,_⟩:=bR.mp r;cases rv;obtain⟨_,_,⟨o,h1,h2,_⟩,_⟩:=I.tuple q;exact m8 PySem.W.kitx_tuple I.Jl ⟨o,h1,h2⟩ e (fun z=>nomatch z) h
 |lst ds =>
  obtain⟨a,vs,rfl,q,_⟩:=bJ.mp r;cases rv;obtain⟨_,_,⟨o,n,h1,h2,_⟩,_⟩:=I.list q;exact m8 PySem.W.kitx_list I.Jl ⟨o,h1,h2⟩ e (fun z=>nomatch z) h
 |su c n=>cases hx
 |sy c n=>cases hx
 |fn c=>cases hx
 |obj c n ds=>cases hx
noncomputable def ahD(K:ai)(t:Ty):List V->Hp->VK->Prop:=fun xs H Q=>∃v d,xs=[v,.ty t.nm]/\isX d=false/\Rep K H d v/\Q (.bl (isD d t)) H
theorem Tw{t:Ty}:gj X (.builtin "isinstance") (ahD X.K t):=by
 intro pins s σ H xs us Q I r ⟨v,d,e,hx,rd,q⟩;subst e;cases r with
 |cons r1 r2 =>
  cases r2 with
  |cons r3 r4 =>
   cases r4;cases r3;exact acD I hx rd r1 fun tk=>⟨.bl _,H,I.tok tk,rfl,q⟩
noncomputable def JF(t:Ty):D->Rs D:=fun d=>if isX d=false then .ok (.bl (isD d t)) else .no
theorem afm{t:Ty}{x:Str}{e:ah}{p1 p2:Pos}{f:aH->Rs D}(hm:X.mg "isinstance"=none) (hmt:X.mg x=none) (he:SE X B W e f) (hv:gT x=some (.type t.nm)) (hg:Gl X "isinstance":=by rfl) (hgx:Gl X x:=by rfl)
  (hst:bg [e,.Name x p2] X.env=[(false,aS e X.env),(false,aS (.Name x p2) X.env)]:=by rfl) (hst2:bg [.Name x p2] X.env=[(false,aS (.Name x p2) X.env)]:=by rfl) (hn:x≠"__name__":=by decide) (hd:uN x:=by decide) :
  SE X B W (.Call (.Name "isinstance" p1) [e,.Name x p2] [] pos) (fun ρ=>(f ρ).bind (JF t)):=by
 refine PE.imp (ql (Tw (t:=t)) hg hm uS (eN he (eN (Ly (v:=.ty t.nm) hgx hmt hv rfl hn hd) jJ (by rw[hst2];rfl)) (by rw[hst,hst2])) (by decide) (by decide) (by rw[hst,hst2]) (by rw[hst2];rfl)) fun σ H Q h=>?_;obtain⟨ρ,G,s,p⟩:=mZ (k:=fun _=>JF t) h;refine⟨ρ,G,s,p.mono fun v H1 ⟨ρ1,G1,d,s1,r,q⟩=>?_⟩;unfold JF at q;by_cases hx:isX d=false
 ·rw[if_pos hx]at q;exact⟨v,d,rfl,hx,r.mono s1.en.gh,Post.ok s1 q (cJ.mpr rfl)⟩
 ·rw[if_neg hx]at q;exact q.elim
noncomputable def ug:List D->Option (List Bool)
 | []=>some []
 | .bl b::ds=>(ug ds).map (b::·)
 |_=>none
theorem yS:∀{ds:List D}{vs:List V}{bs:List Bool},bF K G ds vs->ug ds=some bs->vs=bs.map V.bl
 | [],_,bs,r,e=>by cases e;rw[bf.mp r];rfl
 | .bl b::ds,_,bs,r,e=>by
  obtain⟨v,vs',rfl,r1,r2⟩:=aO.mp r;simp only[ug]at e;cases e1:ug ds with
  |none=>rw[e1]at e;cases e
  |some cs=>rw[e1]at e;cases e;rw[cJ.mp r1,yS r2 e1];rfl
 | .non::_,_,_,_,e=>by cases e
 | .int _::_,_,_,_,e=>by cases e
 | .str _::_,_,_,_,e=>by cases e
 | .tup _::_,_,_,_,e=>by cases e
 | .lst _::_,_,_,_,e=>by cases e
 | .su _ _::_,_,_,_,e=>by cases e
 | .sy _ _::_,_,_,_,e=>by cases e
 | .fn _::_,_,_,_,e=>by cases e
 | .obj _ _ _::_,_,_,_,e=>by cases e
theorem yU:∀{bs:List Bool}{us:List aa},Vals (bs.map V.bl) us->us=bs.map aa.bool
 | [],_,.nil=>rfl
 |b::bs,_,.cons r t=>by rw[yU t];cases r;rfl
theorem Qe(bs:List Bool):(cz bs.length).all (fun i=>bs.getD i false)=bs.all id:=by
 induction bs with
 |nil=>rfl
 |cons b bs ih =>
  rw[cq,oz,tP,t9,tP,<- ih];simp[qk]
theorem Gu{prog:aE}{w:az}{A:aI}(bs:List Bool):TruthOf prog w A (fun i v=>(bs.map aa.bool).toArray[i]?=some v) fun i=>bs.getD i false:=by
 intro i v s Q E hP hQ;have hP':(bs.map aa.bool)[i]?=some v:=by simpa using hP
 rw[cK]at hP';cases e:bs[i]? with
 |none=>rw[e]at hP';cases hP'
 |some b =>
  rw[e]at hP';cases hP';dsimp only at hQ;rw[f6,e]at hQ;exact kR hQ
theorem Qf(hc:X.calm=true):gj X (.builtin "all") (fun xs H Q=>∃(p:ae) (bs:List Bool),xs=[.ref p]/\pU X.K H p (bs.map V.bl)/\Q (.bl (bs.all id)) H):=by
 intro pins s σ H xs us Q I r ⟨p,bs,e,q,k⟩;subst e;obtain⟨u,rfl,rx⟩:=r.one;cases rx;obtain⟨its,rv,pl,_⟩:=I.list q;have ei:=yU rv;subst ei;refine call_all_walk (p_ pl.isList ?_);refine⟨_,_,_,_,_,_,fun i=>bs.getD i false,rfl,oD (by show X.A.handled=none;exact I.ok.hd hc) _ p (ck (by obtain⟨o,_,e,_⟩:=pl;exact bE e)) (bs.map aa.bool).toArray,⟨⟨_,cy _ rfl,rfl,rfl⟩,pl.isList.push _⟩,Gu bs,fun h' tk hk=>?_⟩;have e:(cz (bs.map aa.bool).toArray.size).all (fun i=>bs.getD i false)=bs.all id:=by rw[cE,cx];exact Qe bs
 rw[e];refine⟨.bl _,H,I.kept (t':=tk) (h':=h') fun b o z=>hk b o ?_ (bS _ z),rfl,k⟩;intro hb;have:b=s.heap.objs.size:=by simpa using hb
 rw[this]at z;exact absurd (bE z) (fw _)
noncomputable def Du:List D->Rs D
 | [.lst ds]=>match ug ds with|some bs=>.ok (.bl (bs.all id))|none=>.no
 |_=>.no
theorem acF:qm K (fun xs H Q=>∃(p:ae) (bs:List Bool),xs=[.ref p]/\pU K H p (bs.map V.bl)/\Q (.bl (bs.all id)) H) Du:=by
 intro B W σ ρ G H ds vs Q s r p;unfold Du at p;split at p
 ·rename_i es;split at p
  ·rename_i bs e;obtain⟨v,vs',rfl,r1,r2⟩:=aO.mp r;obtain⟨a,us,rfl,q,rr⟩:=bJ.mp r1;rw[bf.mp r2];have e2:=yS rr e;subst e2;exact⟨a,bs,rfl,s.en.gh.seq q,Post.ok s p (cJ.mpr rfl)⟩
  ·exact p.elim
 ·exact p.elim
end
section
variable{X:Cx}{pins:List (ae×Obj)}{σ:St}{H:Hp}{s:af}{ea:ae}{c:Str}{n:Int}{tr:Bool}
theorem Ze{M:Model}{Q:Unit->af->Prop}{E:aa->af->Prop}{outer:List Env}{L:ae}(hst:X.stack=X.env::outer)(hf:X.env.frame=some L)(hex:X.ex=[])(I:Inv X pins σ H s)(F:Dp X.K X.s₀.heap ((X.pn++pins).map (·.1)) ea c n s.heap H tr)
  (hQ:∀h',Inv X pins σ H { s with heap:=h' }->Dp X.K X.s₀.heap ((X.pn++pins).map (·.1)) ea c n h' H true->Q () { s with heap:=h' }) :
  ar M X.A (kv (.ref ea) X.env) (fun _ s2=>ar M X.A (oC (.ref ea) none) Q E s2) E s :=
 JC hst hf hex I F fun h' I' F' _=>Dq I' F' hQ
theorem Inv.track(I:Inv X pins σ H s){o:HO}(hr:X.s₀.heap.get? ea=none/\ea≠X.env.locals/\(∀x c,X.env.cells.lookup x=some c->c≠ea)/\(∀p∈X.pn++pins,p.1≠ea)/\H ea=none)
  (new:dW X.prog X.w (upd H ea o) s.heap ea o):Inv X pins σ (upd H ea o) s:=by
 obtain⟨r1,r2,r3,r4,r5⟩:=hr;have ne:∀b u,H b=some u->b≠ea:=fun b u e=>aP e r5;refine⟨I.ok,I.os,I.bare,⟨I.base.keep,I.base.slot,fun b o' e n hx=>?_,I.base.there,fun b xs e=>?_,fun b o' u e=>?_,fun b ps e=>?_⟩,I.loc,I.cell,?_,fun x c e=>?_,fun p hp=>?_,fun b u e=>?_,I.len⟩
 ·rw[aK (fun z=>by rw[z,r1]at e;cases e)];exact I.base.free b o' e n hx
 ·have:=I.base.tups b xs e;rw[aK (ne _ _ this)];exact this
 ·have:=I.base.uO b o' u e;rw[aK (ne _ _ this)];exact this
 ·obtain⟨m,this⟩:=I.base.wL b ps e;exact⟨m,by rw[aK (ne _ _ this)];exact this⟩
 ·rw[aK (b_ r2)];exact I.free
 ·rw[aK (r3 x c e)];exact I.jF x c e
 ·obtain⟨e,n,q⟩:=I.pin p hp;exact⟨e,by rw[aK (r4 p hp)];exact n,q⟩
 ·by_cases hb:b=ea
  ·subst hb;rw[aW]at e;cases e;exact new
  ·rw[aK hb]at e;exact(I.hok b u e).stay (fun c v _ q=>q) (fun c q=>by rw[aK (aP q r5)];exact q) (fun c xs q=>by rw[aK (aP q r5)];exact q) fun c xs q=>by rw[aK (aP q r5)];exact q
end
noncomputable abbrev Gv(X:Cx)(ea:ae):Cx:={ X with A:=X.A.mark (some (.ref ea)),calm:=false,xe:=fun _ _=>False }
section
variable{X:Cx}{pins:List (ae×Obj)}{σ:St}{H:Hp}{s:af}{ea:ae}
theorem Inv.marked(I:Inv X pins σ H s):Inv (Gv X ea) pins σ H s :=
 ⟨⟨I.ok.mod,I.ok.kind,I.ok.glob,I.ok.blt,I.ok.above,I.ok.inj,I.ok.has,I.ok.cab,(fun z=>nomatch z),I.ok.frames,I.ok.stk,I.ok.exf,I.ok.bs,I.ok.Ru,I.ok.Cy,I.ok.OJ,I.ok.uP,I.ok.frf⟩,
  I.os,I.bare,I.base,I.loc,I.cell,I.free,I.jF,I.pin,I.hok,I.len⟩
theorem Inv.unmarked{τ:St}{H':Hp}{s':af}(I:Inv X pins σ H s)(J:Inv (Gv X ea) pins τ H' s'):Inv X pins τ H' s' :=
 ⟨I.ok,J.os,J.bare,J.base,J.loc,J.cell,J.free,J.jF,J.pin,J.hok,J.len⟩
theorem xX{M:Model}{A:aI}{E:aa->af->Prop}{i:Nat}{x:Str}{pos:Pos}{Q:Unit->af->Prop}(I:Inv X pins σ H s)(hN:X.N.Nodup)(hi:X.N[i]?=some x)(hk:X.env.kindOf x=some .local)
  (h:∀s',Inv X pins (σ.set i none) H s'->Q () s'):ar M A (do bindName X.env x .none;unbindBehindTheSuite X.env x pos) Q E s:=by
 obtain⟨m,hn,hl⟩:=id I.loc;have hcls:(X.env.scope.kind == .class || (X.env.scope.kind == .module && X.env.locals != X.env.globals))=false:=by rw[I.ok.kind];rfl
 refine wpAny_nameGoes_keeps hk hn hcls fun h' v hn' hs=>?_;have hiσ:i < σ.length:=by rw[I.len];exact(df.mp hi).1
 have Rw:=I.Rw;obtain⟨oL,_,_,hoL,_⟩:=id hn;have tracked:tU X.prog X.w H h':=fun b ob e=>by
  refine(I.hok b ob e).stay (fun c w' hc q=>(hs.2 c ?_).trans q) (fun _ q=>q) (fun _ _ q=>q) fun _ _ q=>q;rintro rfl;rcases hc with rfl|hc
  ·rw[I.free]at e;cases e
  ·rw[I.free]at hc;cases hc
 refine h _ ⟨I.ok,I.os,I.bare,⟨fun b o e n hb hx=>?_,fun b o e n hb hx=>?_,I.base.free,fun b o e hx=>?_,I.base.tups,I.base.uO,I.base.wL⟩,⟨_,hn',fun j y v' e1 e2 e3=>?_⟩,fun y c e=>?_,I.free,I.jF,fun p hp=>?_,tracked,by simpa using I.len⟩
 ·exact(hs.2 b (ck (dm (bE e) I.ok.above))).trans (I.base.keep b o e n hb hx)
 ·obtain⟨sl,e1⟩:=I.base.slot b o e n hb hx;exact⟨sl,(hs.2 b (ck (dm (bE e) I.ok.above))).trans e1⟩
 ·obtain⟨o',e1⟩:=I.base.there b o e hx;exact⟨o',(hs.2 b (ck (dm (bE e) I.ok.above))).trans e1⟩
 ·by_cases hj:j=i
  ·subst hj;rw[di hiσ]at e2;cases e2
  ·rw[cv (b_ hj)]at e2;obtain⟨u',r',q⟩:=hl j y v' e1 e2 e3;refine⟨u',r',?_⟩;rcases q with ⟨k,e⟩|⟨k,c,e,z⟩
   ·refine .inl ⟨k,?_⟩;have:y≠x:=fun e=>hj (yw hN e1 (e▸hi));simp[this,e]
   ·exact .inr ⟨k,c,e,z.sameBut hs (Rw y c e)⟩
 ·obtain⟨w',z⟩:=I.cell y c e;exact⟨w',z.sameBut hs (Rw y c e)⟩
 ·obtain⟨e,n,ne,nf,d⟩:=I.pin p hp;exact⟨(hs.2 p.1 ne).trans e,n,ne,nf,d⟩
end
end Vl
namespace Vl
open PySem PySem.Spec PySem.Calls PySem.W L2
section
variable{K:ai}
end
section
variable{X:Cx}{B:Bs}{W:Wi}
theorem SR.unset{K:ai}{σ:St}{H G:Hp}{ρ:aH}(h:SR K B σ H ρ G)(i:Nat):SR K B (σ.set i none) H (ρ.set i .no) G:=by
 have ne:∀{j:Nat}{x:Sl},(ρ.set i .no)[j]?=some x->x≠.no->i≠j/\ρ[j]?=some x:=fun {j x} q hx=>by
  by_cases e:i=j
  ·subst e;have hl:i < ρ.length:=by have:=(df.mp q).1;simpa using this
   rw[di hl]at q;cases q;exact absurd rfl hx
  ·rw[cv e]at q;exact⟨e,q⟩
 refine⟨h.en,by simp[h.len],fun j d q=>?_,fun j z q w=>?_,fun j k z z' a q1 w1 q2 w2 q3 q4=>?_,fun j ds a q1 q2=>?_,h.co⟩
 ·obtain⟨e,q⟩:=ne q (by simp);rw[cv e];exact h.fz j d q
 ·obtain⟨e,q⟩:=ne q (by rintro rfl;cases w);rw[cv e];exact h.own j z q w
 ·obtain⟨e1,q1⟩:=ne q1 (by rintro rfl;cases w1);obtain⟨e2,q2⟩:=ne q2 (by rintro rfl;cases w2);rw[cv e1]at q3;rw[cv e2]at q4;exact h.ap j k z z' a q1 w1 q2 w2 q3 q4
 ·obtain⟨e,q1⟩:=ne q1 (by simp);rw[cv e]at q2;exact h.tie j ds a q1 q2
noncomputable def afn(i:Nat):Ou->Ou
 | .nx ρ=>.nx (ρ.set i .no)
 | .bk ρ=>.bk (ρ.set i .no)
 | .ct ρ=>.ct (ρ.set i .no)
 | .rt d=>.rt d
 |_=>.no
noncomputable def Qg(m:Str->Bool)(i:Nat)(gb gs:aH->Ou):aH->Ou:=fun ρ=>match gb ρ with
 | .ex c n ρ'=>if m c=true/\n=0 then afn i (gs (ρ'.set i (.fz (.su c n)))) else .no
 |o=>o
theorem Zf{G H:Hp}(gh:Same G H)(tp:∀a xs,H a=some (.tup xs)->G a=some (.tup xs)){p:ae}{φ:Heap->Prop}(hp:H p=none):Ext G H (upd G p (.ext φ)) (upd H p (.ext φ)) where
 gg:=fun b o e=>by rw[aK (aP (gh _ _ e) hp)];exact e
 hh:=fun b o e=>by rw[aK (aP e hp)];exact e
 gh:=fun b o e=>by
  by_cases q:b=p
  ·subst q;rw[aW]at e ⊢;exact e
  ·rw[aK q]at e ⊢;exact gh _ _ e
 tp:=fun b ys e=>by
  by_cases q:b=p
  ·subst q;rw[aW]at e;cases e
  ·rw[aK q]at e ⊢;exact tp _ _ e
 nw:=fun b o e n=>by rw[aK (aP e hp)];exact n
noncomputable abbrev Tz(X:Cx)(E:aa->af->Prop)(pl:List (ae×Obj)):Cx:={ X with xe:=E,pn:=X.pn++pl }
theorem Inv.tried{pins:List (ae×Obj)}{σ:St}{H:Hp}{s:af}{E:aa->af->Prop}(I:Inv X pins σ H s):Inv (Tz X E pins) [] σ H s :=
 ⟨⟨I.ok.mod,I.ok.kind,I.ok.glob,I.ok.blt,I.ok.above,I.ok.inj,I.ok.has,I.ok.cab,I.ok.hd,I.ok.frames,I.ok.stk,I.ok.exf,I.ok.bs,I.ok.Ru,I.ok.Cy,I.ok.OJ,I.ok.uP,I.ok.frf⟩,
  I.os,I.bare,I.base,I.loc,I.cell,I.free,I.jF,fun p hp=>I.pin p (by simpa using hp),I.hok,I.len⟩
theorem Inv.uh{pins rZ:List (ae×Obj)}{σ τ:St}{H H':Hp}{s s':af}{E:aa->af->Prop}(I:Inv X pins σ H s)(J:Inv (Tz X E pins) rZ τ H' s'):Inv X pins τ H' s' :=
 ⟨I.ok,J.os,J.bare,J.base,J.loc,J.cell,J.free,J.jF,fun p hp=>J.pin p (kQ _ hp),J.hok,J.len⟩
theorem Dp.weak{K:ai}{old:Heap}{av av':List ae}{ea:ae}{c:Str}{n:Int}{h:Heap}{H:Hp}{tr:Bool}(F:Dp K old av ea c n h H tr)(w:∀b,b∈av'->b∈av):Dp K old av' ea c n h H tr:=by
 obtain⟨C,oe,vs,a0,h1,h2,h3,h4,h5,h6,h7,h8,h9,h10⟩:=F;refine⟨C,oe,vs,a0,h1,h2,h3,h4,h5,h6,h7,fun z=>h8 (w _ z),h9,?_⟩;cases tr with
 |false=>exact h10
 |true =>
  rw[if_pos rfl]at h10 ⊢;obtain⟨T,oT,ts,x,t1,t2,t3,t4,t5,t6,t7,t8⟩:=h10;exact⟨T,oT,ts,x,t1,t2,t3,t4,t5,t6,t7,fun z=>t8 (w _ z)⟩
theorem acG{body suite:List bj}{b₀:bj}{x n:Str}{np hpos pos:Pos}{i:Nat}{CB:ae}{m:Str->Bool}{gb gs:aH->Ou}{outer:List Env}{L:ae}
  (hst:X.stack=X.env::outer) (hf:X.env.frame=some L) (hex:X.ex=[]) (hN:X.N.Nodup) (hi:X.N[i]?=some n) (hk:X.env.kindOf n=some .local)
  (hg:Gl X x) (hmx:X.mg x=some (.ref CB)) (hm:∀c C,m c=true->ip X.K bu c=some (some (.ref C))->PySem.W.exmOne X.K (.ref C) (.ref CB)=some true)
  (hb:∀(E:aa->af->Prop) (pl:List (ae×Obj)) (W':Wi),Bl (Tz X E pl) W'->rA (Tz X E pl) B W' body gb) (hs:∀ea,rA (Gv X ea) B WF (b₀::suite) gs)
  (hd:uN x:=by decide) :
  SS X B W (.Try body [.ExceptHandler (some (.Name x np)) (some n) (b₀::suite) hpos] [] [] pos) (Qg m i gb gs):=by
 intro pins s σ H De I ⟨ρ,G,sr,p⟩;refine wpAny_Try_except ?_
 let E1:aa->af->Prop:=fun e s₁=>ar (ax X.prog X.w) X.A (kv e X.env) (fun _ s₂=>ar (ax X.prog X.w) X.A (oC e none) (fun _ s₃=>ar (ax X.prog X.w) X.A (handleBy e X.env [.ExceptHandler (some (.Name x np)) (some n) (b₀::suite) hpos]) (SP X pins De) X.xe s₃) X.xe s₂) X.xe s₁
 let W1:Wi:=fun c k σ' H'=>∃ρ' G',gb ρ=.ex c k ρ'/\SR X.K B σ' H' ρ' G'/\Same G G'
 have hpost:cP X.K B W1 G (gb ρ) De:=by
  unfold Qg at p;cases e:gb ρ with
  |ex c k ρ'=>exact fun σ' H' G' s' q=>⟨ρ',G',e,s',q⟩
  |nx _=>rw[e]at p;exact p
  |bk _=>rw[e]at p;exact p
  |ct _=>rw[e]at p;exact p
  |rt _=>rw[e]at p;exact p
  |no=>rw[e]at p;exact p
  |rx _ _=>rw[e]at p;exact p
  |rl _=>rw[e]at p;exact p
 have hpass:Bl (Tz X E1 pins) W1:=by
  intro rZ σ' H' s1 ea c k tr I1 F1 ⟨ρ',G',e1,sr',sg⟩;have J1:Inv X pins σ' H' s1:=(Inv.uh I I1)
  have F1':Dp X.K X.s₀.heap ((X.pn++pins).map (·.1)) ea c k s1.heap H' tr:=F1.weak fun b z=>by obtain⟨q,hq,e⟩:=eQ.mp z;exact eQ.mpr ⟨q,kQ _ hq,e⟩
  unfold Qg at p;rw[e1]at p;dsimp only at p;by_cases mc:m c=true/\k=0
  ·rw[if_pos mc]at p;obtain⟨mc,k0⟩:=mc;subst k0;refine Ze hst hf hex J1 F1' fun h' J2 F2=>?_;refine wpAny_handleBy_cons (codeAny_handlers_test (xQ (X:=Gv X ea) (Inv.marked J2) hg hmx ?_ hd)) (by intro q;cases q);have LT:∃C,ip X.K bu c=some (some (.ref C))/\gm (ax X.prog X.w) h' (typeOf (.ref ea)) (.ref C):=by obtain⟨C,oe,vs,a0,h1,h2,h3,_⟩:=F2;refine⟨C,h1,?_⟩;have:gm (ax X.prog X.w) h' (typeOf (.ref ea)) oe.cls:=(gm.ld h2).andThen .now;rw[h3]at this;exact this
   obtain⟨C,hC,LT⟩:=LT;refine(PySem.W.exm_one J2.Jl LT (hm c C mc hC)).here ?_;show fq _ _ _ _ _;refine codeAny_handlers_suite_as ?_;refine Dq J2 F2 fun h'' J3 F3=>?_;obtain⟨C',oe,vs,a0,h1,h2,h3,h4,h5,h6,h7,h8,h9,h10⟩:=F3;have J4:Inv X pins σ' (upd H' ea (.ext (wg ea C' none))) { s1 with heap:=h'' }:=by refine Inv.track J3 (Tf J3 h2 h4 h7 h6 fun q hq z=>h8 (eQ.mpr ⟨q,hq,z⟩)) ⟨⟨oe,vs,h2,h3,h4,fun _ z=>nomatch z⟩,⟨oe,h2⟩,?_⟩;intro a1 a2 ⟨o,ws,b1,b2,b3,b4⟩ kp;exact⟨o,ws,kp o b1,b2,b3,b4⟩
   have x4:Ext G' H' (upd G' ea (.ext (wg ea C' none))) (upd H' ea (.ext (wg ea C' none))):=Zf sr'.en.gh sr'.en.tp h6;have Ro:=(sr'.ext x4).set (i:=i) (d:=.su c 0) (v:=.ref ea) (qZ.mpr ⟨ea,C',none,rfl,h1,aW,.inl rfl⟩);refine yx (X:=Gv X ea) (Inv.marked J4) hN hi (.inl hk) (v:=.ref ea) rfl (fun s5 J5=>?_) (.inr hk);have acH:cP X.K B WF (upd G' ea (.ext (wg ea C' none))) (gs (ρ'.set i (.fz (.su c 0)))) { nx:=fun σ6 H6=>De.nx (σ6.set i none) H6,bk:=fun σ6 H6=>De.bk (σ6.set i none) H6,ct:=fun σ6 H6=>De.ct (σ6.set i none) H6,rt:=De.rt }:=by
    have sg4:=sg.trans x4.gg;cases e:gs (ρ'.set i (.fz (.su c 0))) with
    |nx ρ6=>rw[e]at p;exact fun σ6 H6 G6 s6 q6=>p _ H6 G6 (s6.unset i) (sg4.trans q6)
    |bk ρ6=>rw[e]at p;exact fun σ6 H6 G6 s6 q6=>p _ H6 G6 (s6.unset i) (sg4.trans q6)
    |ct ρ6=>rw[e]at p;exact fun σ6 H6 G6 s6 q6=>p _ H6 G6 (s6.unset i) (sg4.trans q6)
    |rt d=>rw[e]at p;exact fun v H6 G6 s6 q6=>p v H6 G6 s6 (sg4.trans q6)
    |ex c' k' ρ6=>rw[e]at p;exact p.elim
    |no=>rw[e]at p;exact p.elim
    |rx _ _=>rw[e]at p;exact p.elim
    |rl _=>rw[e]at p;exact p.elim
   refine dS (hs ea pins s5 _ _ _ J5 ⟨_,_,Ro,acH⟩) (fun f s6 h=>?_) fun _ _ z=>z.elim;show ar _ _ _ _ _ _;cases f with
   |next=>obtain⟨σ6,H6,J6,d6⟩:=h;exact xX (Inv.unmarked I J6) hN hi hk fun s7 J7=>⟨_,_,J7,d6⟩
   |brk=>obtain⟨σ6,H6,J6,d6⟩:=h;exact xX (Inv.unmarked I J6) hN hi hk fun s7 J7=>⟨_,_,J7,d6⟩
   |cont=>obtain⟨σ6,H6,J6,d6⟩:=h;exact xX (Inv.unmarked I J6) hN hi hk fun s7 J7=>⟨_,_,J7,d6⟩
   |ret u=>obtain⟨v,σ6,H6,J6,rv,d6⟩:=h;exact xX (Inv.unmarked I J6) hN hi hk fun s7 J7=>⟨v,_,_,J7,rv,d6⟩
  ·rw[if_neg mc]at p;exact p.elim
 refine dS (hb E1 pins W1 hpass [] s σ H De (Inv.tried I) ⟨ρ,G,sr,hpost⟩) (fun f s1 h=>?_) fun _ _ z=>z;cases f with
 |next=>obtain⟨σ6,H6,J6,d6⟩:=h;exact p8 ⟨σ6,H6,(Inv.uh I J6),d6⟩
 |brk=>obtain⟨σ6,H6,J6,d6⟩:=h;exact⟨σ6,H6,(Inv.uh I J6),d6⟩
 |cont=>obtain⟨σ6,H6,J6,d6⟩:=h;exact⟨σ6,H6,(Inv.uh I J6),d6⟩
 |ret u=>obtain⟨v,σ6,H6,J6,rv,d6⟩:=h;exact⟨v,σ6,H6,(Inv.uh I J6),rv,d6⟩
end
noncomputable def wB:aH->Ou:=fun ρ=>.nx ρ
noncomputable def rNo:aH->Ou:=fun _=>.no
noncomputable def bO(g k:aH->Ou):aH->Ou:=fun ρ=>SJ (g ρ) k
noncomputable def dz(f:aH->Rs D):aH->Ou:=fun ρ=>oR (f ρ) ρ .rt
noncomputable def Ai(f:aH->Rs D):aH->Ou:=fun ρ=>oR (f ρ) ρ fun _=>.nx ρ
noncomputable def uo(c:aH->Rs Bool)(a b:aH->Ou):aH->Ou:=fun ρ=>oR (c ρ) ρ fun x=>if x=true then a ρ else b ρ
noncomputable def lK(f:aH->Rs D)(h:Tg):aH->Ou:=fun ρ=>oR (f ρ) ρ fun d=>oO (h d ρ)
noncomputable def gQ(i:Nat)(f:aH->Rs D):aH->Ou:=fun ρ=>oR (f ρ) ρ fun d=>.nx (ρ.set i (.fz d))
noncomputable def Zg(x:Str)(fs:aH->Rs (List D)):aH->Ou:=fun ρ=>oR (fs ρ) ρ fun ds=>if ds.length<=1000 then .ex x 0 ρ else .no
noncomputable def qw(g:aH->Ou):aH->Ou:=fun ρ=>Tc (g ρ)
noncomputable def Gw(f:aH->Rs D):aH->Rs D:=fun ρ=>(f ρ).bind YB
noncomputable def fB(f:aH->Rs D)(g:D->Rs D):aH->Rs D:=fun ρ=>(f ρ).bind g
noncomputable def fL(f:aH->Rs D)(g:D->Rs (List D)):aH->Rs (List D):=fun ρ=>(f ρ).bind g
section
variable{X:Cx}{B:Bs}{W:Wi}
theorem eU:rA X B W [] wB:=acp
theorem aM{st:bj}{cj:List bj}{g k:aH->Ou}(h1:SS X B W st g)(h2:rA X B W cj k):rA X B W (st::cj) (bO g k):=YF h1 h2
theorem bh{st:bj}{g:aH->Ou}(h1:SS X B W st g):rA X B W [st] g:=acq h1
theorem afp{st:bj}:SS X B W st rNo:=SN
theorem bW{e:ah}{pos}{f:aH->Rs D}(h:SE X B W e f):SS X B W (.Return (some e) pos) (dz f):=acr h
theorem TF{e:ah}{pos:Pos}{f:aH->Rs D}(h:SE X B W e f)(hs:eW e none pos.line X.env=pure false:=by rfl):SS X B W (.Expr e pos) (Ai f):=YG h hs
theorem jr{c:ah}{a b:List bj}{pos:Pos}{fc:aH->Rs Bool}{ga gb:aH->Ou}(hc:ST X B W c fc)(ha:rA X B W a ga)(hb:rA X B W b gb):SS X B W (.If c a b pos) (uo fc ga gb):=aeS hc ha hb
theorem gR{tg e:ah}{pos:Pos}{f:aH->Rs D}{h:Tg}(he:SE X B W e f)(hg:SG X B tg h)(hs:mf [tg] e pos.line X.env=pure false:=by rfl)(hw:mh [tg] e X.env=pure none:=by rfl)
  (h1:(fN [tg] X.env).map (·.2)=[assign tg X.env]:=by rfl):SS X B W (.Assign [tg] e pos) (lK f h):=acs he hg hs hw h1
theorem gk(i:Nat){x:Str}{e:ah}{pos pos':Pos}{f:aH->Rs D}(hN:X.N.Nodup)(he:SE X B W e f)(hi:X.N[i]?=some x:=by rfl)(hx:FT X.env.scope x:=by first|exact Or.inl rfl|exact Or.inr rfl)(hs:eW e (some (.Name x pos')) pos.line X.env=pure false:=by rfl)(hf:X.fn x=true∨X.env.scope.names.lookup x=some .local:=by first|exact .inl rfl|exact .inr rfl|assumption) :
  SS X B W (.Assign [.Name x pos'] e pos) (gQ i f):=acu hN hi hx he hs hf
theorem mF{st:bj}{g:aH->Ou}(h:SS X.Pa B WF st g):SS X B W st (qw g):=acy h
theorem TJ{a:ah}{pos:Pos}{fa:aH->Rs D}(ha:SE X B W a fa):SE X B W (.UnaryOp .USub a pos) (Gw fa):=aci ha
theorem rg(i:Nat){x:Str}{pos:Pos}(hN:X.N.Nodup)(hi:X.N[i]?=some x:=by rfl)(hx:FT X.env.scope x:=by first|exact Or.inl rfl|exact Or.inr rfl)(hf:X.fn x=true∨X.env.scope.names.lookup x=some .local:=by first|exact .inl rfl|exact .inr rfl|assumption):SG X B (.Name x pos) (aR i) :=
 YH hN hi hx hf
theorem qx{t:Ty}{x:Str}{e:ah}{p1 p2 pos:Pos}{f:aH->Rs D}(hm:X.mg "isinstance"=none) (hmt:X.mg x=none) (he:SE X B W e f) (hv:gT x=some (.type t.nm)) (hg:Gl X "isinstance":=by rfl) (hgx:Gl X x:=by rfl)
  (hst:bg [e,.Name x p2] X.env=[(false,aS e X.env),(false,aS (.Name x p2) X.env)]:=by rfl) (hst2:bg [.Name x p2] X.env=[(false,aS (.Name x p2) X.env)]:=by rfl) (hn:x≠"__name__":=by decide) (hd:uN x:=by decide) :
  SE X B W (.Call (.Name "isinstance" p1) [e,.Name x p2] [] pos) (fB f (JF t)):=afm hm hmt he hv hg hgx hst hst2 hn hd
theorem MP{tg iter:ah}{f:aH->Rs D}(hi:SE X B W iter f):SI X B W tg iter (fL f asL):=YX hi
theorem yV{tg iter:ah}{f:aH->Rs D}(hi:SE X B W iter f):SI X B W tg iter (fL f Rk):=acA hi
theorem TQ{e:ah}{p pos:Pos}{fa:aH->Rs D}(hc:X.calm=true) (hm:X.mg "all"=none) (ha:SE X B W e fa) (hg:Gl X "all":=by rfl) (he:bg [e] X.env=[(false,aS e X.env)]:=by rfl):SE X B W (.Call (.Name "all" p) [e] [] pos) (fA (ak fa aZ) Du) :=
 mz (Qf hc) acF hg hm rfl (aq ha aQ he) (by decide) (by decide) he rfl
theorem cT{e e':ah}{p pos:Pos}{fa fb:aH->Rs D}(hm:X.mg "divmod"=none) (ha:SE X B W e fa) (hb:SE X B W e' fb) (hg:Gl X "divmod":=by rfl) (he:bg [e,e'] X.env=[(false,aS e X.env),(false,aS e' X.env)]:=by rfl) (he':bg [e'] X.env=[(false,aS e' X.env)]:=by rfl) :
  SE X B W (.Call (.Name "divmod" p) [e,e'] [] pos) (fA (ak fa (ak fb aZ)) Bj) :=
 mz Di aeR hg hm rfl (aq ha (aq hb aQ he') (by rw[he,he'])) (by decide) (by decide) (by rw[he,he']) (by rw[he'];rfl)
end
noncomputable def jj(P:aE)(w:az)(K:ai)(mg:Str->Option aa)(base:Heap)(x:Str)(k n:Nat)(v:List D->Rs D):Prop :=
 ∃f fd ps,Gb P w K mg base (Bk P w K) k f fd ps (YK K n v)/\mg x=some (.ref f)/\j0 K (.ref f)=true/\Binds K fd ps []
theorem acI{P:aE}{w:az}{K:ai}{mg:Str->Option aa}{base:Heap}{x:Str}{st:bj}{f:ae}{fd:dq}{N ps:List Str}{k:Nat}{g:aH->Ou}(F:Fun K x x st f fd)(hm:mg x=some (.ref f))(S:bM N ps (aJ st))
  (hbi:∀(kV doc pm:aa) (an:Option ae) (cdv ct:aa) (us:List aa),us.length=ps.length->bindArgs (gf x x (dg st) (cB st) (aJ st) .none kV doc pm an cdv ct) ⟨us,[]⟩=pure (ps.zip us))
  (hb:∀(cdv:aa) (A:aI) (outer:List Env) (s:af) (H:Hp) (E:XK) (B:Bs),lH k (A.deeper (mT x (aJ st) s.heap.objs.size f cdv)) ->
   sH (rQ (Bk P w K) P w K mg base N x (aJ st) f cdv A outer s H E) (fun c n _ H'=>E (xW c n) none H') ->
   rA (rQ (Bk P w K) P w K mg base N x (aJ st) f cdv A outer s H E) B (fun c n _ H'=>E (xW c n) none H') (cB st) g) :
  jj P w K mg base x (k + 1) ps.length (fun ds=>dY (g (aY N ds))) :=
 ⟨f,fd,ps,aeY F S fun cdv A outer s H E B hr=>hb cdv A outer s H E B hr (uf rB rfl),hm,F.kp,F.binds hbi⟩
section
variable{X:Cx}{B:Bs}{W:Wi}
theorem bK{x:Str}{p pos:Pos}{e:ah}{es:List ah}{fs:aH->Rs (List D)}{k n kr:Nat}{g:List D->Rs D}(O:jj X.prog X.w X.K X.mg X.base x k n g)(hr:lH kr X.A)(hx:sH X W)(ha:SA X B W (e::es) fs)(hg:Gl X x:=by rfl)(hdb:uN x:=by decide)
  (he:bg (e::es) X.env=(false,aS e X.env)::bg es X.env:=by rfl) (hpl:(dt pos (bg es X.env)).any (·.1)=false:=by rfl) (hkr:k<=kr:=by decide):SE X B W (.Call (.Name x p) (e::es) [] pos) (fA fs (bD n g)):=by
 obtain⟨f,fd,ps,F,hm,hk,hb⟩:=O;exact YT F (hr.mono hkr) hg hm hk hb hx ha hdb he hpl
end
noncomputable def Nb(K:cS)(C:ae):Bool :=
 mroIn K C (.type "object") == some true && (mroIn K C (.type "BaseException") == some true && (lh K (.ref C) "__class__" == some (some (.builtin "object.__class__")) &&
  (specialIn K (.builtin "object.__class__") "__get__" == some (some (.builtin "getset_descriptor.__get__")) && (takesIn K (.builtin "object.__class__") == some true &&
   (lh K (.ref C) "__getattribute__" == some (some (.builtin "BaseException.__getattribute__")) && (lh K (.ref C) "__getattr__" == some none && kitCls K (.ref C) (.ref C) == some true))))))
theorem Qh{prog:aE}{w:az}{A:aI}{s:af}{K:cS}{x C:ae}{R:Result->af->Prop}{tp:aa}(Z:K.In s.heap)
  (LT:∀M,gm M s.heap (typeOf (.ref x)) (.ref C)) (hm:mroIn K C (.type "object")=some true) (hR:R (.ok (.ret (.ref C))) s) :
  fq (ax prog w) A (.call (.builtin "getset_descriptor.__get__") ⟨[.builtin "object.__class__",.ref x,tp],[]⟩) R s:=by
 obtain⟨h,g,d,t,os⟩:=s;have LM:gm (ax prog w) h (isSubtype (.ref C) (.type "object")) true:=looks_mroIn Z hm;have LI:gm (ax prog w) h (isInstance (.ref x) (.type "object")) true:=(LT _).andThen LM;refine codeAny_call_builtin KF.slot_gs.plain KF.entry_gs (KF.slot_gs.check _ _ _ _ _ _ _ _ KF.type_class (KF.args_gs _ _ _) ?_);show ar _ _ (cw.Getset_descriptor.descrGet _) _ _ _;unfold cw.Getset_descriptor.descrGet;rw[dga_obj];refine ag (a_ ?_);show ar _ _ (cw.Getset_descriptor.descrGetter _ _) _ _ _;unfold cw.Getset_descriptor.descrGetter cw.Getset_descriptor.descrCheckInstance cw.Getset_descriptor.descrNameAndClass;simp only[KF.owner_class];refine ag (ag (a_ ?_));refine ag (LI.at ?_);simp only[gp,cn,if_false];refine a_ ?_;refine nd_pure ⟨Code.quiet_builtin _ (by decide+kernel),j_ KF.entry_class ?_⟩;show ar _ _ (Bind.bind (shownTypeOf (.ref x)) fun z=>ret z) _ _ _;unfold shownTypeOf;refine ag (ag ((LT _).at ?_));rw[if_neg (by simp)];exact a_ (a_ hR)
theorem Qi{M:Model}{A:aI}{E:aa->af->Prop}{s:af}{K:cS}{x C:ae}{nv:aa}{Q:Unit->af->Prop}(Z:K.In s.heap)
  (LT:∀M,gm M s.heap (typeOf (.ref x)) (.ref C)) (hm:mroIn K C (.type "BaseException")=some true) (hQ:Q () s) :
  ar M A (checkBuiltinCall "BaseException.__getattribute__" { pos:=[.ref x,nv] }) Q E s:=by
 obtain⟨h,g,d,t,os⟩:=s;have LM:gm M h (isSubtype (.ref C) (.type "BaseException")) true:=looks_mroIn Z hm;have LI:gm M h (isInstance (.ref x) (.type "BaseException")) true:=(LT _).andThen LM;have e1:builtinKind "BaseException.__getattribute__"=some .slot:=by first|rfl|decide+kernel
 have e2:splitId "BaseException.__getattribute__"=some ("BaseException","__getattribute__"):=by first|rfl|decide+kernel
 have e3:=F.args_bexc_ga (.ref x) nv;unfold lj at e3;unfold checkBuiltinCall;simp only[e1,e2];refine ag (LI.at ?_);simp only[gp,cn,if_false];cases hs:Manifest.signature? "BaseException.__getattribute__" with
 |none=>exact a_ hQ
 |some sig=>rw[hs]at e3;dsimp only at e3 ⊢;rw[e3];exact a_ hQ
theorem acJ{prog:aE}{w:az}{A:aI}{s:af}{K:cS}{x C:ae}{R:Result->af->Prop}{tk:Tok}(Z:K.In s.heap)
  (LT:∀M,gm M s.heap (typeOf (.ref x)) (.ref C)) (hk:Nb K C=true) (hR:R (.ok (.ret (.ref C))) s) :
  fq (ax prog w) A (.call (.builtin "BaseException.__getattribute__") ⟨[.ref x,.str "__class__" tk],[]⟩) R s:=by
 obtain⟨h,g,d,t,os⟩:=s;simp only[Nb,ir,beq_iff_eq]at hk;obtain⟨hm,hb,h1,h2,h3,_⟩:=hk;refine codeAny_call_builtin (by decide+kernel) F.entry_bexc_ga (Qi Z LT hb ?_);unfold Builtin.«object.__getattribute__» slotArgs;refine ag (a_ (ag (a_ (ag ((LT _).at (ag ?_))))));unfold cw.ObjectAttr.find;refine ag ((u4 Z h1).at (ag ((looks_specialIn Z h2).at (ag (ag ((looks_takesIn Z h3).at (a_ (ag (f7 (a_ ?_))))))))));show ar _ _ (cw.ObjectAttr.bindTo _ _ _ _) _ _ _;unfold cw.ObjectAttr.bindTo;exact ag (e_ (qs (Qh Z LT hm (a_ hR))))
theorem Nf{K:cS}{x C:ae}{dx:Option ae}(hk:Nb K C=true):KitX K (.ref x) (.ref C) (wg x C dx):=by
 have LT:∀M h,wg x C dx h->gm M h (typeOf (.ref x)) (.ref C):=fun M h ⟨o,vs,h1,h2,_⟩=>by have:gm M h (typeOf (.ref x)) o.cls:=(gm.ld h1).andThen .now;rw[h2]at this;exact this
 have hk':=hk;simp only[Nb,ir,beq_iff_eq]at hk';obtain⟨_,_,_,_,_,h4,h5,h6⟩:=hk';refine⟨fun M h Z p=>LT M h p,fun M h Z p=>(kit_cls Z h6).2.1,fun h tp dd its n sl Z e=>?_,fun {prog w A E Q s} Z p hQ=>?_⟩
 ·cases hh:(aa.ref C == aa.ref tp) with
  |false=>rfl
  |true =>
   exfalso;have e1:C=tp:=by simpa using hh
   subst e1;unfold kitCls clsIn at h6;dsimp only at h6;cases hl:i9 C K with
   |none=>rw[hl]at h6;simp at h6
   |some o=>have:=Z _ _ hl;rw[e]at this;cases this;rw[hl]at h6;simp at h6
 ·obtain⟨h,g,d,t,os⟩:=s;unfold getAttr? getAttrBy? getAttrBy;refine ag (wpAny_mkText (ag (ja (e_ (ag ((LT _ _ p).at (ag ((u4 Z h4).at ?_))))))));dsimp only;rw[if_neg (by simp[onTheHeap])];unfold getAttrByItsOwn hookBefore;rw[if_pos (by rfl)];refine ag ((u4 Z h5).at (ag (ja (e_ ?_))));unfold callGetattribute;rw[if_neg (by simp)];unfold boundAndCalled;rw[show bindSpecial (.builtin "BaseException.__getattribute__") (.ref x)=pure (.builtin "BaseException.__getattribute__",[.ref x]) by first|rfl|kernel_rfl];exact ag (a_ (qs (acJ Z (fun M=>LT M _ p) hk (handed_on rfl (a_ hQ)))))
theorem Dv{K:cS}{Pr:ae->Bool->Prop}:∀(c:Str) (b:Bool) (C:ae),i9 c ([]:List (Str×Bool))=some b->cf K bu c=some (some (.ref C))->Pr C b:=fun _ _ _ h=>nomatch h
theorem yW{K:cS}{Pr:ae->Bool->Prop}{x:Str}{b₀:Bool}{D:ae}{l:List (Str×Bool)}(n:cf K bu x=some (some (.ref D)))(p:Pr D b₀)(h:∀(c:Str) (b:Bool) (C:ae),i9 c l=some b->cf K bu c=some (some (.ref C))->Pr C b) :
  ∀(c:Str) (b:Bool) (C:ae),i9 c ((x,b₀)::l)=some b->cf K bu c=some (some (.ref C))->Pr C b:=fun c b C e z=>by
 rw[i8]at e;split at e
 ·next q=>obtain rfl:=eq_of_beq q;rw[n]at z;cases z;cases e;exact p
 ·exact h c b C e z
section
variable{X:Cx}{B:Bs}{W:Wi}
noncomputable def yX(m:Str->Option Bool):D->Rs D
 | .su c n=>match m c with|some b=>.ok (.bl b)|none=>.no
 |_=>.no
theorem TV{m:Str->Option Bool}{u:aa}{v:V}(ru:∀u',RelV v u'->u'=u)(hm:∀c b C,m c=some b->cf X.K bu c=some (some (.ref C))->Nb X.K C=true/\gr X.K (.ref C) u=some b) :
  gj X (.builtin "isinstance") (fun xs H Q=>∃y c n b,xs=[y,v]/\m c=some b/\Rep X.K H (.su c n) y/\Q (.bl b) H):=by
 intro pins s σ H xs us Q I r ⟨y,c,n,b,e,mc,rd,q⟩;subst e;cases r with
 |cons r1 r2 =>
  cases r2 with
  |cons r3 r4 =>
   cases r4;obtain⟨a,C',_,rfl,hn,hH,_⟩:=qZ.mp rd;cases r1;obtain rfl:=ru _ r3;obtain⟨h1,h2⟩:=hm c b C' mc hn;exact kia_one (Nf h1) I.Jl (I.hok _ _ hH).1 h2 (fun z=>nomatch z) fun tk=>⟨.bl b,H,I.tok tk,rfl,q⟩
theorem Gx:∀{Cs:List ae}{us:List aa},Vals (Cs.map V.ref) us->us=Cs.map aa.ref
 | [],_,r=>by cases r;rfl
 |C::Cs,_,r=>by
  cases r with
  |cons r1 r2=>rw[Gx r2];cases r1;rfl
theorem Qj{m:Str->Option Bool}{Cs:List ae}(hm:∀c b C,m c=some b->cf X.K bu c=some (some (.ref C))->Nb X.K C=true/\kitAny X.K (.ref C) (Cs.map aa.ref)=some b) :
  gj X (.builtin "isinstance") (fun xs H Q=>∃y c n b t,xs=[y,.ref t]/\H t=some (.tup (Cs.map V.ref))/\m c=some b/\Rep X.K H (.su c n) y/\Q (.bl b) H):=by
 intro pins s σ H xs us Q I r ⟨y,c,n,b,t,e,ht,mc,rd,q⟩;subst e;cases r with
 |cons r1 r2 =>
  cases r2 with
  |cons r3 r4 =>
   cases r4;obtain⟨a,C',_,rfl,hn,hH,_⟩:=qZ.mp rd;cases r1;cases r3;obtain⟨h1,h2⟩:=hm c b C' mc hn;obtain⟨its,ri,⟨o,g1,g2,k,g3⟩,_⟩:=I.tuple (.of ht);obtain⟨oc,od,oe,ol⟩:=o;dsimp only at g2 g3;subst g2 g3;rw[<- Gx ri]at h2;exact kia_tup (Nf h1) I.Jl (I.hok _ _ hH).1 g1 h2 (fun z=>nomatch z) fun tk=>⟨.bl b,H,I.tok tk,rfl,q⟩
theorem aaU{m:Str->Option Bool}{d:D}{G H:Hp}{σ:St}{Q:VK}(q:Post X.K W σ G H (yX m d) Q):∃c n b,d=.su c n/\m c=some b/\Post X.K W σ G H (.ok (.bl b)) Q:=by
 cases d with
 |su c n =>
  simp only[yX]at q;cases e:m c with
  |none=>rw[e]at q;exact q.elim
  |some b=>rw[e]at q;exact⟨c,n,b,rfl,e,q⟩
 |_=>exact q.elim
theorem Ng{m:Str->Option Bool}{u:aa}{v:V}{e c:ah}{p1 pos:Pos}{f:aH->Rs D}(ru:∀u',RelV v u'->u'=u)(hm:∀c b C',m c=some b->cf X.K bu c=some (some (.ref C'))->Nb X.K C'=true/\gr X.K (.ref C') u=some b)
  (hi:X.mg "isinstance"=none) (he:SE X B W e f) (hc:PE X c (tC v)) (hg:Gl X "isinstance") (hst:bg [e,c] X.env=[(false,aS e X.env),(false,aS c X.env)]) (hst2:bg [c] X.env=[(false,aS c X.env)]) :
  SE X B W (.Call (.Name "isinstance" p1) [e,c] [] pos) (fB f (yX m)):=by
 refine PE.imp (ql (TV ru hm) hg hi uS (eN he (eN hc jJ (by rw[hst2];rfl)) (by rw[hst,hst2])) (by decide) (by decide) (by rw[hst,hst2]) (by rw[hst2];rfl)) fun σ H Q h=>?_;obtain⟨ρ,G,s,p⟩:=mZ (k:=fun _=>yX m) h;refine⟨ρ,G,s,p.mono fun v H1 ⟨ρ1,G1,d,s1,r,q⟩=>?_⟩;obtain⟨c,n,b,rfl,mc,q⟩:=aaU q;exact⟨v,c,n,b,rfl,mc,r.mono s1.en.gh,Post.ok s1 q (cJ.mpr rfl)⟩
theorem acK{m:Str->Option Bool}{C:ae}{x:Str}{e:ah}{p1 p2 pos:Pos}{f:aH->Rs D}(hm:∀c b C',m c=some b->cf X.K bu c=some (some (.ref C'))->Nb X.K C'=true/\gr X.K (.ref C') (.ref C)=some b)
  (hi:X.mg "isinstance"=none) (hmt:X.mg x=some (.ref C)) (he:SE X B W e f) (hg:Gl X "isinstance":=by rfl) (hgx:Gl X x:=by rfl)
  (hst:bg [e,.Name x p2] X.env=[(false,aS e X.env),(false,aS (.Name x p2) X.env)]:=by rfl) (hst2:bg [.Name x p2] X.env=[(false,aS (.Name x p2) X.env)]:=by rfl) (hd:uN x:=by decide) :
  SE X B W (.Call (.Name "isinstance" p1) [e,.Name x p2] [] pos) (fB f (yX m)):=Ng (v:=.ref C) (fun _ z=>z) hm hi he (Lx hgx hmt rfl hd) hg hst hst2
theorem Zh{m:Str->Option Bool}{T:String}{x:Str}{e:ah}{p1 p2 pos:Pos}{f:aH->Rs D}(hm:∀c b C',m c=some b->cf X.K bu c=some (some (.ref C'))->Nb X.K C'=true/\gr X.K (.ref C') (.type T)=some b)
  (hi:X.mg "isinstance"=none) (hmt:X.mg x=none) (he:SE X B W e f) (hv:gT x=some (.type T)) (hg:Gl X "isinstance":=by rfl) (hgx:Gl X x:=by rfl)
  (hst:bg [e,.Name x p2] X.env=[(false,aS e X.env),(false,aS (.Name x p2) X.env)]:=by rfl) (hst2:bg [.Name x p2] X.env=[(false,aS (.Name x p2) X.env)]:=by rfl) (hn:x≠"__name__":=by decide) (hd:uN x:=by decide) :
  SE X B W (.Call (.Name "isinstance" p1) [e,.Name x p2] [] pos) (fB f (yX m)):=Ng (v:=.ty T) (fun _ z=>z) hm hi he (Ly hgx hmt hv rfl hn hd) hg hst hst2
noncomputable def tCl(Cs:List ae):TA:=fun _ H Q=>Q (Cs.map V.ref) H
theorem acL:PA X [] (tCl []):=jJ
theorem lM{x:Str}{p:Pos}{C:ae}{Cs:List ae}{es:List ah}(hm:X.mg x=some (.ref C))(h:PA X es (tCl Cs))(hg:Gl X x:=by rfl)(hd:uN x:=by decide)
  (hs:bg (.Name x p::es) X.env=(false,aS (.Name x p) X.env)::bg es X.env:=by rfl):PA X (.Name x p::es) (tCl (C::Cs)) :=
 eN (Lx (v:=.ref C) hg hm rfl hd) h hs
theorem Zi{m:Str->Option Bool}{Cs:List ae}{e:ah}{es:List ah}{x1}{p1 p2 pos:Pos}{f:aH->Rs D}(hm:∀c b C',m c=some b->cf X.K bu c=some (some (.ref C'))->Nb X.K C'=true/\kitAny X.K (.ref C') (Cs.map aa.ref)=some b)
  (hi:X.mg "isinstance"=none) (he:SE X B W e f) (hc:PA X es (tCl Cs)) (hl:Cs.length<=1000:=by simp) (hg:Gl X "isinstance":=by rfl)
  (hst:bg [e,.Tuple es x1 p2] X.env=[(false,aS e X.env),(false,aS (.Tuple es x1 p2) X.env)]:=by rfl) (hst2:bg [.Tuple es x1 p2] X.env=[(false,aS (.Tuple es x1 p2) X.env)]:=by rfl) :
  SE X B W (.Call (.Name "isinstance" p1) [e,.Tuple es x1 p2] [] pos) (fB f (yX m)):=by
 refine PE.imp (ql (Qj hm) hg hi uS (eN he (eN (RK hc) jJ (by rw[hst2];rfl)) (by rw[hst,hst2])) (by decide) (by decide) (by rw[hst,hst2]) (by rw[hst2];rfl)) fun σ H Q h=>?_;obtain⟨ρ,G,s,p⟩:=mZ (k:=fun _=>yX m) h;refine⟨ρ,G,s,p.mono fun v H1 ⟨ρ1,G1,d,s1,r,q⟩=>?_⟩;obtain⟨c,n,b,rfl,mc,q⟩:=aaU q;refine⟨by simpa using yK hl,fun a ha=>?_⟩;have x:=tY (xs:=Cs.map V.ref) s1.en.gh s1.en.tp ha;exact⟨v,c,n,b,a,rfl,aW,mc,(r.mono x.gg).mono (s1.ext x).en.gh,Post.ok (s1.ext x) (Post.ext x q) (cJ.mpr rfl)⟩
end
end Vl
namespace Vl
open PySem PySem.Spec PySem.W L2
section
variable{X:Cx}{B:Bs}{W:Wi}{σ:L2.St}{H:Hp}{K:ai}
end
end Vl
namespace Vl
open PySem PySem.Spec PySem.Calls PySem.W L2
noncomputable def aaV(S sc:Scope)(NX N:List Str)(nt:Nat)(caps:List Nat):Bool :=
 decide (sc.kind=.function) && sc.names.all (fun y=>y.2 != .cell) && sc.names.all (fun y=>y.2 != .free || S.names.lookup y.1 == some .cell || S.names.lookup y.1 == some .free) && decide (N.length=nt + caps.length) &&
  (cz caps.length).all fun j=>match caps[j]?,N[nt + j]? with|some i,some x=>NX[i]? == some x && sc.names.lookup x == some .free|_,_=>true
theorem lN{X:Cx}{sc:Scope}{N:List Str}{nt:Nat}{caps:List Nat}(S:Scope)(NX:List Str)(h:aaV S sc NX N nt caps=true)(hS:X.env.scope=S:=by rfl)(hX:X.N=NX:=by rfl):rR X sc N nt caps:=by
 unfold aaV at h;simp only[ir,decide_eq_true_eq,kz,bne_iff_ne,kA,beq_iff_eq,ne_eq]at h;obtain⟨⟨⟨⟨h1,h2⟩,h3⟩,h4⟩,h5⟩:=h;refine⟨h1,fun y hy=>h2 y hy,fun y hy hf=>?_,h4,fun j i x e1 e2=>?_⟩
 ·have:=h3 y hy;unfold Env.kindOf;rw[hS];rcases this with (h|h)|h
  ·exact absurd hf h
  ·exact .inl h
  ·exact .inr h
 ·have:=h5 j (by rw[iS];exact(df.mp e1).1);rw[e1,e2]at this;simp only[ir,beq_iff_eq]at this;rw[hX];exact this
theorem gH{i:Nat}:nZ (aR i):=by
 intro d ρ ρ' no e j ds q;unfold aR at e;cases e;by_cases c:i=j
 ·subst c;have hl:i < ρ.length:=by have:=(df.mp q).1;simpa using this
  rw[di hl]at q;cases q;exact fun w=>by cases w
 ·rw[cv c]at q;exact no j ds q
noncomputable def xY(h:List D->aH->Option aH):Prop:=∀ds ρ ρ',Gr ρ->h ds ρ=some ρ'->Gr ρ'
theorem TX:xY jE:=fun ds ρ ρ' no e=>by
 cases ds with
 |nil=>cases e;exact no
 |cons _ _=>cases e
theorem Bt{h:Tg}{k:List D->aH->Option aH}(h1:nZ h)(h2:xY k):xY (bQ h k):=fun ds ρ ρ' no e=>by
 cases ds with
 |nil=>cases e
 |cons d ds =>
  simp only[bQ]at e;cases e1:h d ρ with
  |none=>rw[e1]at e;cases e
  |some ρ1=>rw[e1]at e;exact h2 ds ρ1 ρ' (h1 d ρ ρ1 no e1) e
theorem TY{n:Nat}{k:List D->aH->Option aH}(h:xY k):nZ (ji n k):=fun d ρ ρ' no e=>by
 cases d with
 |tup ds =>
  simp only[ji]at e;split at e
  ·exact h ds ρ ρ' no e
  ·cases e
 |_=>cases e
theorem Dw{X:Cx}{B:Bs}{W:Wi}{tg iter:ah}{elt:ah}{sc:Scope}{pos:Pos}{N:List Str}{nt:Nat}{caps:List Nat}{h:Tg}{fe:aH->Rs D}{fi:aH->Rs (List D)}
  (c:rR X sc N nt caps) (hc:X.calm=true) (hnames:sc.names.all (fun y=>y.2 != .local || sc.names.lookup y.1 == some .local)=true) (hi:SI X B W tg iter fi) (hno:nZ h)
  (ht:∀s₀ H₀ C ex pins B',SG (fW X N s₀ H₀ sc (dF sc X.env) C ex pins) B' tg h)
  (he:∀s₀ H₀ C ex pins B',SE (fW X N s₀ H₀ sc (dF sc X.env) C ex pins) B' WF elt fe)
  (hs:∀x,gc iter X.env x=pure x:=by intro _;rfl) :
  SE X B W (.ListComp elt [⟨tg,iter,[],0⟩] sc pos) (dZ h (fun _=>.ok true) fe nt caps fi) :=
 Zc c hc (fun y hy hl=>by
  have:=kz.mp hnames y hy;simp only[kA,bne_iff_ne,beq_iff_eq,ne_eq]at this;exact this.elim (fun z=>absurd hl z) id) hi hno ht (.inl ⟨rfl,rfl⟩) he hs
noncomputable def acM(i j:Nat)(fs:aH->Rs (List D)):aH->Ou:=fun ρ=>oR (fs ρ) ρ fun ds=>match ds with
 | [d,e]=>.nx ((ρ.set i (.fz d)).set j (.fz e))
 |_=>.no
theorem Gy{K:cS}(C:ae):gr K (.ref C) (.ref C)=some true:=by unfold gr;rw[if_pos (by simp)]
theorem Qk{K:cS}{a b:aa}(h:exmOne K a b=some true):gr K a b=some true:=by
 unfold exmOne at h;split at h
 ·unfold gr;split
  ·rfl
  ·exact h
 ·cases h
section
variable{ρ ρ1:aH}{d x y z:D}{f fa fb:aH->Rs D}{g k a b:aH->Ou}{r:Ou}{ds:List D}{fs:aH->Rs (List D)}{c c1 c2:aH->Rs Bool}{t u:Bool}{i j:Nat}
theorem aX(h:g ρ=.nx ρ1)(h2:k ρ1=r):bO g k ρ=r:=by unfold bO;rw[h];exact h2
theorem vf(h:g ρ=.rt d):bO g k ρ=.rt d:=by unfold bO;rw[h];rfl
theorem Ua{e:Str}{n:Int}(h:g ρ=.ex e n ρ1):bO g k ρ=.ex e n ρ1:=by unfold bO;rw[h];rfl
theorem cu:fC d ρ=.ok d:=rfl
theorem au(h:ρ[i]?=some (.fz d)):aD i ρ=.ok d:=by unfold aD;rw[h]
theorem bC{o:D->D->Rs D}{r:Rs D}(h1:fa ρ=.ok x)(h2:fb ρ=.ok y)(h3:o x y=r):bH o fa fb ρ=r:=by unfold bH;rw[h1];show(fb ρ).bind _=_;rw[h2];exact h3
theorem aaW{n:Int}(h1:fa ρ=.ok (.int n)):Gw fa ρ=.ok (.int (-n)):=by unfold Gw;rw[h1];rfl
theorem aU:aZ ρ=.ok []:=rfl
theorem ao(h1:fa ρ=.ok x)(h2:fs ρ=.ok ds):ak fa fs ρ=.ok (x::ds):=by unfold ak;rw[h1];show(fs ρ).bind _=_;rw[h2];rfl
theorem cQ{o:List D->Rs D}{r:Rs D}(h1:fs ρ=.ok ds)(h2:o ds=r):fA fs o ρ=r:=by unfold fA;rw[h1];exact h2
theorem Gz{o:D->Rs D}{r:Rs D}(h1:fa ρ=.ok x)(h2:o x=r):fB fa o ρ=r:=by unfold fB;rw[h1];exact h2
theorem bU{n:Nat}{v:List D->Rs D}{r:Rs D}(hl:ds.length=n)(h:v ds=r):bD n v ds=r:=by unfold bD;rw[if_pos hl];exact h
theorem aaX(hl:ds.length<=1000):gP ds=.ok (.tup ds):=by unfold gP;rw[if_pos hl]
theorem GC(hl:ds.length<=1000):wO ds=.ok (.lst ds):=by unfold wO;rw[if_pos hl]
theorem pq(h:fa ρ=.ok (.bl t)):fT fa ρ=.ok t:=by unfold fT;rw[h];rfl
theorem Ub(h:c ρ=.ok t):yI c ρ=.ok (!t):=by unfold yI;rw[h];rfl
theorem acN(h:c1 ρ=.ok false)(h2:c2 ρ=.ok t):fOr c1 c2 ρ=.ok t:=by unfold fOr;rw[h];exact h2
theorem Nh(h:c1 ρ=.ok false):wN c1 c2 ρ=.ok false:=by unfold wN;rw[h];rfl
theorem Ni(h:c1 ρ=.ok true)(h2:c2 ρ=.ok t):wN c1 c2 ρ=.ok t:=by unfold wN;rw[h];exact h2
theorem oh(h:c ρ=.ok true)(h2:a ρ=r):uo c a b ρ=r:=by unfold uo;rw[h];exact h2
theorem cX(h:c ρ=.ok false)(h2:b ρ=r):uo c a b ρ=r:=by unfold uo;rw[h];exact h2
theorem kj(h:fa ρ=.ok x):gQ i fa ρ=.nx (ρ.set i (.fz x)):=by unfold gQ;rw[h];rfl
theorem gO(h:fa ρ=.ok x):dz fa ρ=.rt x:=by unfold dz;rw[h];rfl
theorem afq(h:fa ρ=.ok x):Ai fa ρ=.nx ρ:=by unfold Ai;rw[h];rfl
theorem GD{e:Str}{n:Int}(h:fa ρ=.ex e n):Ai fa ρ=.ex e n ρ:=by unfold Ai;rw[h];rfl
theorem jG{h:Tg}(h1:fa ρ=.ok x)(h2:h x ρ=some ρ1):lK fa h ρ=.nx ρ1:=by unfold lK;rw[h1];show oO (h x ρ)=_;rw[h2];rfl
theorem mG:wB ρ=.nx ρ:=rfl
theorem sI(h:g ρ=.nx ρ1):qw g ρ=.nx ρ1:=by unfold qw;rw[h];rfl
theorem JG{h:Tg}{n:Int}{N:Nat}(h1:fa ρ=.ok (.int n))(hb:n < 2 ^ 62)(hN:n=(N:Int))(h2:fU h g ((cz N).map fun(i:Nat)=>.int i) ρ=r):wA h g fa ρ=r:=by
 have hc:-(2 ^ 62)<=n/\n < 2 ^ 62:=⟨by subst hN;lia,hb⟩
 unfold wA;rw[h1];simp only[oR];rw[if_pos hc,hN,m9];exact h2
theorem Dy{h:Tg}(h1:fa ρ=.ok (.lst ds))(h2:fU h g ds ρ=r):yM h g fa ρ=r:=by unfold yM;rw[h1];exact h2
theorem Dz{h:Tg}(h1:fa ρ=.ok (.tup ds))(h2:fU h g ds ρ=r):yN h g fa ρ=r:=by unfold yN;rw[h1];exact h2
theorem GF{h:Tg}(P:aH->Prop):∀{ds:List D}{ρ:aH},P ρ->(∀d∈ds,∀ρ,P ρ->∃ρ1 ρ',h d ρ=some ρ1/\g ρ1=.nx ρ'/\P ρ')->∃ρ',fU h g ds ρ=.nx ρ'/\P ρ'
 | [],ρ,p,_=>⟨ρ,rfl,p⟩
 |d::ds,ρ,p,st=>by obtain⟨ρ1,ρ2,e1,e2,p2⟩:=st d (by simp) ρ p;obtain⟨ρ',e,p'⟩:=GF (ds:=ds) P p2 fun d' hd=>st d' (by simp[hd]);refine⟨ρ',?_,p'⟩;simp only[fU,e1,e2];exact e
theorem Uc{m:Str->Bool}{gs:aH->Ou}{e:Str}(h:g ρ=.ex e 0 ρ1)(hm:m e=true)(h2:afn i (gs (ρ1.set i (.fz (.su e 0))))=r):Qg m i g gs ρ=r:=by unfold Qg;rw[h];show(if _ then _ else _)=_;rw[if_pos ⟨hm,rfl⟩];exact h2
theorem JH{h:Tg}{ft:aH->Rs Bool}{fe:aH->Rs D}{nt:Nat}{caps:List Nat}{fi:aH->Rs (List D)}{ys:List D}(h1:fi ρ=.ok ds)(h2:dX h ft fe ds (dG nt caps ρ)=.ok ys)(hl:ys.length<=1000000):dZ h ft fe nt caps fi ρ=.ok (.lst ys):=by unfold dZ;rw[h1];show kh ((dX h ft fe ds (dG nt caps ρ)).bind _)=_;rw[h2];show kh (if ys.length<=1000000 then _ else _)=_;rw[if_pos hl];rfl
theorem v_l{o:D->Rs (List D)}(h1:fa ρ=.ok x)(h2:o x=.ok ds):fL fa o ρ=.ok ds:=by unfold fL;rw[h1];exact h2
variable{m n:Int}
theorem afr(h:Js m n):fZ (.int m) (.int n)=.ok (.int (m * n)):=by simp[fZ,gI,h]
theorem wC(h:0 < n):oM (.int m) (.int n)=.ok (.int (m % n)):=by simp[oM,gI,h]
theorem Nj(h:CDB m n):wQ (.int m) (.int n)=.ok (.int (m / n)):=by simp[wQ,gI,h]
theorem Ud(h:RG m n):mq (.int m) (.int n)=.ok (.int (m ^ n.toNat)):=by simp[mq,gI,h]
theorem jL:cM (.int m) (.int n)=.ok (.int (m + n)):=rfl
theorem Ql{a b:List D}(h:a.length + b.length<=1000000):cM (.lst a) (.lst b)=.ok (.lst (a++b)):=by simp only[cM];rw[if_pos h]
theorem nq:Vl.nY (.int m) (.int n)=.ok (.int (m - n)):=rfl
theorem vg(h:CDB m n):Bj [.int m,.int n]=.ok (.tup [.int (m / n),.int (m % n)]):=by simp[Bj,h]
theorem Ue:gLt (.int m) (.int n)=.ok (.bl (decide (m < n))):=rfl
theorem acO:gLe (.int m) (.int n)=.ok (.bl (decide (m<=n))):=rfl
theorem Qm:gGt (.int m) (.int n)=.ok (.bl (decide (n < m))):=rfl
theorem Zj:gGe (.int m) (.int n)=.ok (.bl (decide (n<=m))):=rfl
theorem qy:yR (.int m) (.int n)=.ok (.bl (decide (m=n))):=by simp[yR,jl,qe];rfl
theorem Ug:Zd (.int m) (.int n)=.ok (.bl (!decide (m=n))):=by simp[Zd,jl,qe];rfl
theorem ahE(h1:jl x<=8)(h2:jl y<=8):yR x y=.ok (.bl (qe x y)):=by unfold yR;rw[if_pos ⟨h1,h2⟩]
theorem ahF(h1:jl x<=8)(h2:jl y<=8):Zd x y=.ok (.bl (!qe x y)):=by unfold Zd;rw[if_pos ⟨h1,h2⟩]
theorem ahG(h:xR ds m=some d):gU (.tup ds) (.int m)=.ok d:=by simp[gU,h]
theorem Bu(h:xR ds m=some d):gU (.lst ds) (.int m)=.ok d:=by simp[gU,h]
theorem cdb(h:0 < n)(h2:n < 2 ^ 200):CDB m n:=⟨h,h2⟩
end
end Vl
namespace Tb
open PySem
noncomputable def it:Nat->Nat->Nat
 | 0,x=>x
 |m + 1,x=>5 * it m x + 1
theorem Uh(m n x:Nat):it (m + n) x=it m (it n x):=by
 induction m with
 |zero=>simp[it]
 |succ m ih=>rw[Nat.succ_add];simp only[it];rw[ih]
theorem acP(k:Nat):∃w,w % 2=1/\∀y,it (2 ^ k) y=y + 2 ^ k * w * (4 * y + 1):=by
 induction k with
 |zero=>exact⟨1,rfl,fun y=>by simp[it];lia⟩
 |succ k ih =>
  obtain⟨w,hw,h⟩:=ih;refine⟨w * (1 + 2 ^ (k + 1) * w),?_,fun y=>?_⟩
  ·have e:2 ^ (k + 1)=2 * 2 ^ k:=by rw[qA];lia
   rw[e,Nat.mul_add,Nat.mul_one,u5];have:w * (2 * 2 ^ k * w) % 2=0:=by
    have:w * (2 * 2 ^ k * w)=2 * (w * 2 ^ k * w):=by grind
    rw[this];exact Nat.mul_mod_right _ _
   lia
  ·have e:2 ^ (k + 1)=2 ^ k + 2 ^ k:=by rw[qA];lia
   rw[e,Uh,h,h]
   grind
theorem afs(k:Nat):∀x e:Nat,∃m,m < 2 ^ k/\it m x % 2 ^ k=e % 2 ^ k:=by
 induction k with
 |zero=>exact fun x e=>⟨0,by decide,by simp[Nat.mod_one]⟩
 |succ k ih =>
  intro x e;obtain⟨m,hm,he⟩:=ih x e;obtain⟨w,hw,hp⟩:=acP k;have e2:2 ^ (k + 1)=2 ^ k * 2:=qA ..;by_cases c:it m x % 2 ^ (k + 1)=e % 2 ^ (k + 1)
  ·exact⟨m,by rw[e2];lia,c⟩
  ·refine⟨2 ^ k + m,by rw[e2];lia,?_⟩;rw[Uh,hp];have pos:0 < 2 ^ k:=u6 (by simp);generalize it m x=a at he c;obtain⟨q,hq⟩:∃q,w * (4 * a + 1)=2 * q + 1:=by
    refine⟨w * (4 * a + 1) / 2,?_⟩;have:w * (4 * a + 1) % 2=1:=by
     rw[u7];have:(4 * a + 1) % 2=1:=by lia
     rw[hw,this]
    lia
   have hq':2 ^ k * w * (4 * a + 1)=2 ^ k * 2 * q + 2 ^ k:=by rw[u_,hq];grind
   rw[hq',e2];rw[e2]at c;generalize 2 ^ k=M at *;have h1:(a + (M * 2 * q + M)) % (M * 2)=(a + M) % (M * 2):=by
    have:a + (M * 2 * q + M)=a + M + M * 2 * q:=by lia
    rw[this,qB]
   rw[h1];have a1:=Nat.mod_add_div a (M * 2);have b1:=Nat.mod_add_div e (M * 2);have al:=Nat.mod_lt a (show 0 < M * 2 by lia);have bl:=Nat.mod_lt e (show 0 < M * 2 by lia);generalize a % (M * 2)=ra at a1 al c;generalize e % (M * 2)=rb at b1 bl c ⊢;have ham:a % M=ra % M:=by rw[<- a1,u_,qB]
   have hbm:e % M=rb % M:=by rw[<- b1,u_,qB]
   have hrr:ra % M=rb % M:=by rw[<- ham,<- hbm];exact he
   have hA:(a + M) % (M * 2)=(ra + M) % (M * 2):=by
    rw[<- a1];have:ra + M * 2 * (a / (M * 2)) + M=ra + M + M * 2 * (a / (M * 2)):=by lia
    rw[this,qB]
   rw[hA];by_cases ha:ra < M
   ·have e3:ra % M=ra:=jb ha;have hb:¬rb < M:=fun z=>c (by rw[jb z]at hrr;lia);have e4:rb % M=rb - M:=by rw[qE (by lia),jb (by lia)]
    rw[jb (by lia)];lia
   ·have e3:ra % M=ra - M:=by rw[qE (by lia),jb (by lia)]
    have hb:rb < M:=Nat.lt_of_not_le fun z=>c (by
     have e4:rb % M=rb - M:=by rw[qE (by lia),jb (by lia)]
     lia)
    have e4:rb % M=rb:=jb hb;rw[qE (by lia),jb (by lia)];lia
end Tb
namespace Tb
open PySem PySem.SetTable
noncomputable def Nk(t:eA):Nat->Probe->Probe
 | 0,p=>p
 |s + 1,p=>Nk t s (t.advance p)
theorem DG(t:eA)(a b:Nat)(p:Probe):Nk t (a + b) p=Nk t b (Nk t a p):=by
 induction a generalizing p with
 |zero=>simp[Nk]
 |succ a ih=>rw[Nat.succ_add];simp only[Nk];exact ih _
theorem GJ(t:eA)(s:Nat)(p:Probe):Nk t (s + 1) p=t.advance (Nk t s p):=by rw[DG];rfl
noncomputable def Bv(mask i pt:Nat)(d:Option Nat):Probe:={ j:=i,more:=runEnd mask i - i,i:=i,perturb:=pt,dummy:=d }
theorem ahI(mask i:Nat):runEnd mask i - i<=9:=by unfold runEnd;split <;> lia
theorem Zk(t:eA):∀(m:Nat) (p:Probe),m<=p.more->Nk t m p={ p with j:=p.j + m,more:=p.more - m }:=by
 intro m
 induction m with
 |zero=>intro p _;simp[Nk]
 |succ m ih =>
  intro p h;rw[GJ,ih p (by lia)];unfold advance;simp only;rw[if_pos (by lia)];simp only[Probe.mk.injEq,and_true,true_and];lia
theorem GP(t:eA)(p:Probe):Nk t (p.more + 1) p=Bv t.mask (leap t.mask p.i p.perturb).1 (leap t.mask p.i p.perturb).2 p.dummy:=by rw[GJ,Zk t p.more p (bz _)];unfold advance Bv;simp only[Nat.sub_self,fw,gt_iff_lt,if_false]
noncomputable def lp(mask:Nat):Nat->Nat×Nat->Nat×Nat
 | 0,x=>x
 |n + 1,x=>leap mask (lp mask n x).1 (lp mask n x).2
theorem acQ(t:eA)(d:Option Nat)(i pt:Nat):∀n,∃s,s<=10 * n/\Nk t s (Bv t.mask i pt d)=Bv t.mask (lp t.mask n (i,pt)).1 (lp t.mask n (i,pt)).2 d:=by
 intro n
 induction n with
 |zero=>exact⟨0,by lia,rfl⟩
 |succ n ih =>
  obtain⟨s,hs,e⟩:=ih;refine⟨s + ((Bv t.mask (lp t.mask n (i,pt)).1 (lp t.mask n (i,pt)).2 d).more + 1),?_,?_⟩
  ·have:=ahI t.mask (lp t.mask n (i,pt)).1;simp only[Bv];lia
  ·rw[DG,e,GP];rfl
theorem aft(mask:Nat)(x:Nat×Nat):∀n,(lp mask n x).2=x.2 / 32 ^ n:=by
 intro n
 induction n with
 |zero=>simp[lp]
 |succ n ih=>simp only[lp,leap,ih];rw[Nat.div_div_eq_div_mul,qA]
theorem afu(mask:Nat)(x:Nat×Nat)(n:Nat):(lp mask (n + 1) x).1 < mask + 1:=Nat.mod_lt _ (by lia)
theorem acR(mask:Nat)(x:Nat×Nat)(a b:Nat):lp mask (a + b) x=lp mask b (lp mask a x):=by
 induction b with
 |zero=>rfl
 |succ b ih=>rw[Nat.add_succ];simp only[lp,ih]
theorem Zm(mask i:Nat)(hi:i < mask + 1):∀n,lp mask n (i,0)=(it n i % (mask + 1),0):=by
 intro n
 induction n with
 |zero=>simp[lp,it,jb hi]
 |succ n ih =>
  simp only[lp,ih,leap,it,vc,Nat.zero_div,m_,and_true];rw[Nat.mul_comm,u5,u7,Nat.mod_mod,<- u7,<- u5]
theorem acS{mask k:Nat}(hk:mask + 1=2 ^ k)(i pt:Nat)(hp:pt < 2 ^ 64){e:Nat}(he:e<=mask):∃n,n<=mask + 13/\(lp mask n (i,pt)).1=e:=by
 have h13:(lp mask 13 (i,pt)).2=0:=by rw[aft];exact Nat.div_eq_of_lt (Nat.lt_trans hp (by decide))
 have hl:=afu mask (i,pt) 12;obtain⟨m,hm,e1⟩:=afs k (lp mask 13 (i,pt)).1 e;refine⟨13 + m,by lia,?_⟩;rw[acR];have e2:lp mask 13 (i,pt)=((lp mask 13 (i,pt)).1,0):=by rw[<- h13]
 rw[e2,Zm _ _ hl,hk,e1,jb (by lia)]
theorem hit{t:eA}{k:Nat}(hk:t.mask + 1=2 ^ k)(p:Probe)(h9:p.more<=9)(hp:p.perturb < 2 ^ 64){e:Nat}(he:e<=t.mask):∃s,s<=10 * (t.mask + 14)/\(Nk t s p).j=e:=by have hq:(leap t.mask p.i p.perturb).2 < 2 ^ 64:=qi (Nat.div_le_self _ _) hp;obtain⟨n,hn,e1⟩:=acS hk (leap t.mask p.i p.perturb).1 (leap t.mask p.i p.perturb).2 hq he;obtain⟨s,hs,e2⟩:=acQ t p.dummy (leap t.mask p.i p.perturb).1 (leap t.mask p.i p.perturb).2 n;refine⟨p.more + 1 + s,by lia,?_⟩;rw[DG,GP,e2];exact e1
noncomputable def pos(t:eA)(h:Int)(s:Nat):Nat:=(Nk t s (t.probeStart h)).j
noncomputable def ahJ(xs:Array Nat):Prop:=∀a b,a < b->b < xs.size->xs.getD a 0 < xs.getD b 0
theorem DK{xs:Array Nat}{a:Nat}(h:a < xs.size)(d:Nat):xs.getD a d=xs.getD a 0:=by simp[Array.getD,h]
noncomputable def ahK(t:eA)(j:Nat):Prop:=∃i,i < t.place.size/\t.place.getD i 0=j
noncomputable abbrev qg:=Nat×Int×aa
structure Good (t:eA)(L:List qg):Prop where
 pw:∃k,t.mask + 1=2 ^ k
 m7:7<=t.mask
 nd:t.dummies=#[]
 pl:t.place=(L.map (·.1)).toArray
 so:(L.map (·.1)).Pairwise (· < ·)
 le:∀e∈L,e.1<=t.mask
 reach:∀e∈L,∃s,pos t e.2.1 s=e.1/\∀s',s' < s->∃e'∈L,e'.1=pos t e.2.1 s'
section
variable{t:eA}{L:List qg}
end
noncomputable def acT(owner:Array (Option Nat))(j:Nat):Prop:=owner.getD j (some 0)=none
theorem yZ{α β:Type}{f g:α->Option β}:∀{l:List α},(∀a∈l,f a=g a)->l.filterMap f=l.filterMap g
 | [],_=>rfl
 |a::l,h=>by have ih:=yZ (l:=l) fun b hb=>h b (dP _ hb);simp only[l_,ih,h a dC]
noncomputable def Ui(M:Nat)(owner:Array (Option Nat)):List (Nat×Nat):=(cz M).filterMap fun j=>(owner.getD j none).map (j,·)
structure LC (t:eA)(hs:List Int)(owner:Array (Option Nat))(k:Nat):Prop where
 sz:owner.size=t.mask + 1
 pm:((Ui (t.mask + 1) owner).map (·.2)).Perm (cz k)
 reach:∀j i,(j,i)∈Ui (t.mask + 1) owner->∃h,hs[i]?=some h/\∃s,pos t h s=j/\∀s',s' < s->¬acT owner (pos t h s')
end Tb
namespace Tb
open PySem PySem.Spec PySem.SetTable
noncomputable abbrev hK(prog:aE)(w:az)(ks:List Int):Int:=tupleKeyHash (de prog w) ks
section
variable{prog:aE}{w:az}{A:aI}{E:aa->af->Prop}{s:af}
end
section
variable{prog:aE}{w:az}{A:aI}{E:aa->af->Prop}{s:af}
noncomputable abbrev Uj(L:List qg)(ep:Nat)(t:eA):Obj:={ cls:=.type "set",dict:=none,data:=.set (L.map (·.2)).toArray ep t }
end
section
variable{prog:aE}{w:az}{A:aI}{E:aa->af->Prop}{s:af}
noncomputable abbrev byT(w:az):Bool:=w.params.followText "set-order"
end
section
variable{prog:aE}{w:az}{U:ae->List Int->Prop}{A:aI}{E:aa->af->Prop}{s:af}
noncomputable def Mk(h:Heap)(a:ae):Prop:=∀L ep t,h.get? a=some (Uj L ep t)->t.mask=7∨t.mask=31∨t.mask=127∨t.mask=511∨t.mask=2047∨t.mask=8191
end
noncomputable def ins(acc:LL)(k:List Int):LL:=if k∈acc then acc else k::acc
section
variable{prog:aE}{w:az}{U:ae->List Int->Prop}{A:aI}{R:Result->af->Prop}{I:ae}{fp wr:List ae}{G:Array kP->Array kP->Prop}{n:Nat}{P:Nat->aa->Prop}{St:Nat->af->Prop}
end
section
variable{prog:aE}{w:az}{A:aI}{E:aa->af->Prop}{s:af}
end
namespace F
end F
section
variable{prog:aE}{w:az}{U:ae->List Int->Prop}{A:aI}{E:aa->af->Prop}{s:af}
end
end Tb
namespace Tb
open PySem PySem.Spec PySem.SetTable
structure Lies (t:eA)(L:List qg):Prop where
 pl:t.place=(L.map (·.1)).toArray
 so:(L.map (·.1)).Pairwise (· < ·)
 fl:t.fill<=t.mask
section
variable{prog:aE}{w:az}{A:aI}{E:aa->af->Prop}{s:af}
end
section
variable{prog:aE}{w:az}{A:aI}{E:aa->af->Prop}{s:af}{D I:ae}{L:List qg}{ep:Nat}{t:eA}
structure Goes (w:az)(L:List qg)(t:eA):Prop where
 g:Lies t L
 hl:L.length<=t.mask
 pl:t.plain=true
 ld:t.led=!byT w
end
section
variable{prog:aE}{w:az}{A:aI}{E:aa->af->Prop}{s:af}{D I:ae}{L:List qg}{ep:Nat}{t:eA}
noncomputable abbrev fV:Obj:={ cls:=.type "list",data:=.seq ([]:List aa).toArray }
end
section
variable{prog:aE}{w:az}{A:aI}{E:aa->af->Prop}{s:af}
end
section
variable{prog:aE}{w:az}{U:ae->List Int->Prop}{A:aI}{E:aa->af->Prop}{s:af}
end
section
variable{prog:aE}{w:az}{U:ae->List Int->Prop}{A:aI}{E:aa->af->Prop}{s:af}
end
section
variable{prog:aE}{w:az}{U:ae->List Int->Prop}{A:aI}{E:aa->af->Prop}{s:af}
end
section
variable{prog:aE}{w:az}{U:ae->List Int->Prop}{A:aI}{E:aa->af->Prop}{s:af}
end
section
variable{prog:aE}{w:az}{U:ae->List Int->Prop}{A:aI}{E:aa->af->Prop}{s:af}
end
end Tb
namespace So
open PySem PySem.W PyProof.Rows
noncomputable def Sp(lt:Nat->Nat->Bool)(n:Nat){α:Type}:KasT α->(α->Prop)->Prop
 | .ret a,Q=>Q a
 | .ask i j k,Q=>i < n/\j < n/\Sp lt n (k (lt i j)) Q
section
variable{lt:Nat->Nat->Bool}{n:Nat}{α β:Type}
structure Ar (n:Nat)(p:Array Nat):Prop where
 sz:p.size=n
 lt:∀i,p.getD i 0 < n
 pm:p.toList.Perm (cz n)
noncomputable def Up(lt:Nat->Nat->Bool)(p:Array Nat)(m:Nat):Prop:=∀i j,i < j->j < m->lt (p.getD j 0) (p.getD i 0)=false
noncomputable def Dn(lt:Nat->Nat->Bool)(p:Array Nat)(m:Nat):Prop:=∀i j,i < j->j < m->lt (p.getD i 0) (p.getD j 0)=false
structure Ord (lt:Nat->Nat->Bool):Prop where
 tr:∀a b c,lt b a=false->lt c b=false->lt c a=false
 as:∀a b,lt a b=true->lt b a=false
theorem irr(O:Ord lt)(a:Nat):lt a a=false:=by
 cases h:lt a a with
 |false=>rfl
 |true=>have:=O.as a a h;rw[h]at this;cases this
end
end So
namespace So
open PySem PySem.W PyProof.Rows PySem.Calls
noncomputable def jk:List Int->List Int->Bool
 | [],[]=>false
 | [],_::_=>true
 |_::_,[]=>false
 |a::as,b::bs=>if a=b then jk as bs else decide (a < b)
theorem qC:∀a b:List Int,jk a b=true->jk b a=false
 | [],[],h=>by cases h
 | [],_::_,h=>rfl
 |_::_,[],h=>by cases h
 |a::as,b::bs,h=>by
  unfold jk at h ⊢;by_cases c:a=b
  ·subst c;simp only[if_true]at h ⊢;exact qC as bs h
  ·rw[if_neg c]at h;rw[if_neg (b_ c)];have:=of_decide_eq_true h;exact decide_eq_false (by lia)
theorem za:∀a b c:List Int,jk b a=false->jk c b=false->jk c a=false
 | [],[],[],_,_=>rfl
 | [],[],_::_,_,_=>rfl
 | [],_::_,[],_,h=>by cases h
 | [],_::_,_::_,_,_=>rfl
 |_::_,[],_,h,_=>by cases h
 |a::as,b::bs,[],_,h=>by cases h
 |a::as,b::bs,c::cs,h1,h2=>by
  unfold jk at h1 h2 ⊢;by_cases e1:b=a
  ·subst e1;simp only[if_true]at h1;by_cases e2:c=b
   ·subst e2;simp only[if_true]at h2 ⊢;exact za as bs cs h1 h2
   ·rw[if_neg e2]at h2 ⊢;exact h2
  ·rw[if_neg e1]at h1;have g1:=of_decide_eq_false h1;by_cases e2:c=b
   ·subst e2;rw[if_neg e1];exact h1
   ·rw[if_neg e2]at h2;have g2:=of_decide_eq_false h2;rw[if_neg (by lia)];exact decide_eq_false (by lia)
theorem JK:∀a b:List Int,jk a b=false->jk b a=false->a=b
 | [],[],_,_=>rfl
 | [],_::_,h,_=>by cases h
 |_::_,[],_,h=>by cases h
 |a::as,b::bs,h1,h2=>by
  unfold jk at h1 h2;by_cases c:a=b
  ·subst c;simp only[if_true]at h1 h2;rw[JK as bs h1 h2]
  ·rw[if_neg c]at h1;rw[if_neg (b_ c)]at h2;have:=of_decide_eq_false h1;have:=of_decide_eq_false h2;lia
theorem acU(bI:LL):Ord fun i j=>jk (bI.getD i []) (bI.getD j []):=⟨fun a b c h1 h2=>za _ _ _ h1 h2,fun a b h=>qC _ _ h⟩
section
variable{prog:aE}{w:az}{A:aI}{E:aa->af->Prop}{s:af}
noncomputable def afv(prog:aE)(w:az)(A:aI)(κ:fx)(vs:List aa)(lt:Nat->Nat->Bool)(s:af):Prop :=
 ∀i j (C:Bool->af->Prop) (E:aa->af->Prop),i < vs.length->j < vs.length->C (lt i j) s->ar (ax prog w) A (keyLt' κ (vs.getD i aa.none) (vs.getD j aa.none)) C E s
noncomputable def JL(lt:Nat->Nat->Bool)(vs:List aa)(st:bo):Prop:=∃p:Array Nat,Ar vs.length p/\Up lt p vs.length/\(ay st).map (·.2)=kB (p.toList.map fun i=>vs.getD i aa.none)/\fy st=none
theorem Uk{b:Bool}{Q:Bool->af->Prop}:∀{ks js:List Int}{xs ys:List aa}(i:Nat),ItemsAre (de prog w) ks xs->ItemsAre (de prog w) js ys->Q (jk ks js) s ->
  KatLex prog w A b (decide (xs.length < ys.length)) Q (xs.zip ys) i s:=by
 have gen:∀(d:Bool) {ks js:List Int}{xs ys:List aa}(i:Nat),ItemsAre (de prog w) ks xs->ItemsAre (de prog w) js ys->d=decide (xs.length < ys.length)->Q (jk ks js) s->KatLex prog w A b d Q (xs.zip ys) i s:=by
  intro d ks
  induction ks with
  |nil =>
   intro js xs ys i hx hy hd hq;cases hx;cases hy with
   |nil=>subst hd;exact kat_nil hq
   |cons h1 h2=>subst hd;exact kat_nil hq
  |cons k ks ih =>
   intro js xs ys i hx hy hd hq;cases hx with
   |cons h1 h2 =>
    cases hy with
    |nil=>subst hd;exact kat_nil hq
    | @cons j v js vs h3 h4 =>
     obtain⟨t,rfl⟩:=l8 h1;obtain⟨u,rfl⟩:=l8 h3;refine kat_cons (wpAny_eqBool_int ?_);by_cases e:k=j
     ·subst e;rw[show(k == k)=true from by simp];refine kat_yes (ih (i + 1) h2 h4 (by rw[hd];simp) ?_);unfold jk at hq;rw[if_pos rfl]at hq;exact hq
     ·rw[show(k == j)=false from by simp[e]];unfold jk at hq;rw[if_neg e]at hq;refine kat_no ?_;cases (b && i == 0) with
      |true=>exact oneLt_int hq
      |false=>exact kat_one _ _ (wpAny_lt_int hq)
 intro ks js xs ys i hx hy hq;exact gen _ i hx hy rfl hq
theorem Zn{a b:ae}{ks js:List Int}{f:Bool}{Q:Bool->af->Prop}(ha:iA (de prog w) s.heap ks a)(hb:iA (de prog w) s.heap js b)(hq:Q (jk ks js) s) :
  ar (ax prog w) A (keyLt' (tuples' f) (.ref a) (.ref b)) Q E s:=by
 obtain⟨o,xs,n,h1,h2,h3,h4⟩:=ha;obtain⟨o',ys,n',h1',h2',h3',h4'⟩:=hb;refine kat_lt h1 h3 h1' h3' ?_;have:=Uk (prog:=prog) (w:=w) (A:=A) (b:=f) 0 h4 h4' hq;simpa using this
noncomputable def KeysAre(prog:aE)(w:az)(h:Heap)(vs:List aa)(bI:LL):Prop :=
 bI.length=vs.length/\∀(i:Nat) v,vs[i]?=some v->∃b,v=.ref b/\iA (de prog w) h (bI.getD i []) b
theorem KeysAre.moved{h h':Heap}{vs:List aa}{bI:LL}(k:KeysAre prog w h vs bI) (hm:∀b o,h.get? b=some o->o.cls=.type "tuple"->h'.get? b=some o):KeysAre prog w h' vs bI :=
 ⟨k.1,fun i v hv=>let ⟨b,e,o,its,m,q1,q2,q3,q4⟩:=k.2 i v hv;⟨b,e,o,its,m,hm _ _ q1 q2,q2,q3,q4⟩⟩
theorem KeysAre.asks{f:Bool}{vs:List aa}{bI:LL}(k:KeysAre prog w s.heap vs bI):afv prog w A (tuples' f) vs (fun i j=>jk (bI.getD i []) (bI.getD j [])) s:=by intro i j C E hi hj hC;obtain⟨b,e,hb⟩:=k.2 i vs[i] (du hi);obtain⟨b',e',hb'⟩:=k.2 j vs[j] (du hj);rw[show vs.getD i aa.none=.ref b by simp[hi,e],show vs.getD j aa.none=.ref b' by simp[hj,e']];exact Zn hb hb' hC
theorem KeysAre.tups{h:Heap}:∀{vs:List aa}{bI:LL},KeysAre prog w h vs bI->(∀ks∈bI,ks≠[])->∃fs:List aa,KatTups h vs fs/\fs.length=vs.length/\∀v∈fs,∃i t,v=.int i t
 | [],bI,k,hn=>⟨[],.nil,rfl,fun v hv=>by cases hv⟩
 |v::vs,[],k,hn=>by cases k.1
 |v::vs,ks::bI,k,hn=>by
  obtain⟨fs,t,l,e⟩:=KeysAre.tups (vs:=vs) (bI:=bI) ⟨by have:=k.1;simpa using this,fun i u hu=>by have:=k.2 (i + 1) u (by simpa using hu);simpa using this⟩ fun x hx=>hn x (.tail _ hx);obtain⟨b,rfl,o,its,m,q1,q2,q3,q4⟩:=k.2 0 v (by simp);have hne:=hn ks (.head _);simp at q4;generalize hits:its.toList=L at q4;cases q4 with
  |nil=>exact absurd rfl hne
  | @cons i v' ks' vs' h1 h2 =>
   obtain⟨tk,rfl⟩:=l8 h1;have h0:its[0]?=some (aa.int i tk):=by rw[<- ka,hits];rfl
   refine⟨.int i tk::fs,.cons q1 q2 q3 h0 t,by simp[l],fun u hu=>?_⟩;rcases bP.mp hu with rfl|hu
   ·exact⟨_,_,rfl⟩
   ·exact e u hu
noncomputable def Rp(a b:List Int):Prop:=jk b a=false
noncomputable def JM(x:List Int):LL->LL
 | []=>[x]
 |y::ys=>if jk y x=true then y::JM x ys else x::y::ys
noncomputable def cR(l:LL):LL:=l.foldr JM []
theorem vh(x:List Int):∀l,(JM x l).Perm (x::l)
 | []=>.refl _
 |y::ys=>by
  unfold JM;split
  ·exact((vh x ys).cons y).trans (nc.swap x y ys)
  ·exact .refl _
theorem gq:∀l,(cR l).Perm l
 | []=>.refl _
 |x::l=>(vh x (cR l)).trans ((gq l).cons x)
theorem Nm(x:List Int):∀l,l.Pairwise Rp->(JM x l).Pairwise Rp
 | [],_=>by simp[JM]
 |y::ys,h=>by
  obtain⟨h1,h2⟩:=gL.mp h;unfold JM;split
  ·rename_i c;refine gL.mpr ⟨fun z hz=>?_,Nm x ys h2⟩;rcases bP.mp ((vh x ys).mem_iff.mp hz) with rfl|hz
   ·exact qC _ _ c
   ·exact h1 z hz
  ·rename_i c;have c':jk y x=false:=by simpa using c
   refine gL.mpr ⟨fun z hz=>?_,h⟩;rcases bP.mp hz with rfl|hz
   ·exact c'
   ·exact za _ _ _ c' (h1 z hz)
theorem uq:∀l,(cR l).Pairwise Rp
 | []=>.nil
 |x::l=>Nm x _ (uq l)
theorem vm:∀{l l':LL},l.Perm l'->l.Pairwise Rp->l'.Pairwise Rp->l=l'
 | [],l',p,_,_=>(List.nil_perm.mp p).symm
 |x::l,[],p,_,_=>by cases List.perm_nil.mp p
 |x::l,y::l',p,h,h'=>by
  obtain⟨h1,h2⟩:=gL.mp h;obtain⟨h1',h2'⟩:=gL.mp h';have e:x=y:=by
   have m1:=bP.mp (p.mem_iff.mp (dC (a:=x) (l:=l)));have m2:=bP.mp (p.mem_iff.mpr (dC (a:=y) (l:=l')));rcases m1 with m1|m1
   ·exact m1
   ·rcases m2 with m2|m2
    ·exact m2.symm
    ·exact JK _ _ (h1' x m1) (h1 y m2)
  subst e;rw[vm (p.cons_inv) h2 h2']
theorem zc{l l':LL}(p:l.Perm l')(h:l.Pairwise Rp):l=cR l':=vm (p.trans (gq l').symm) h (uq l')
noncomputable def GQ(bI:LL)(p:Array Nat):Prop:=p.toList.Perm (cz bI.length)/\(p.toList.map fun i=>bI.getD i [])=cR bI
theorem Ul{bI:LL}{p:Array Nat}(a:Ar bI.length p)(u:Up (fun i j=>jk (bI.getD i []) (bI.getD j [])) p bI.length):GQ bI p:=by
 refine⟨a.pm,zc ?_ ?_⟩
 ·have:=a.pm.map fun i=>bI.getD i [];refine this.trans (qS ?_);apply oI
  ·simp
  ·intro i h1 h2;simp at h1;simp[h1]
 ·rw[ng];intro i j hi hj hij;simp only[cx,kS]at hi hj;have:=u i j hij (by rw[<- a.sz];exact hj);simp only[List.getElem_map,Array.getElem_toList];unfold Rp;rw[oP,oP,qV hi,qV hj]at this;exact this
theorem GR{bI:LL}(h:bI.length < 2):GQ bI (kB (cz bI.length)):=by
 refine⟨.refl _,zc ?_ ?_⟩
 ·refine qS ?_;apply oI
  ·simp
  ·intro i h1 h2;simp at h1;simp[h1]
 ·rw[ng];intro i j hi hj hij;simp at hi hj;lia
end
end So
namespace Sb
open PySem PySem.W PyProof.Rows
section
variable{prog:aE}{w:az}{A:aI}{E:aa->af->Prop}{s:af}{a₀ x0:Array aw}{κ:fx}{rk:aw->Int}{lo:Nat}{p0:Array (Nat×Nat×Nat)}
noncomputable def Ax(prog:aE)(w:az)(A:aI)(s:af)(κ:fx)(rk:aw->Int)(a₀:Array aw):Prop :=
 ∀x y (C:Bool->af->Prop) (E:aa->af->Prop),x∈a₀.toList->y∈a₀.toList->C (decide (rk x < rk y)) s->ar (ax prog w) A (keyLt' κ x.1 y.1) C E s
noncomputable def R(rk:aw->Int)(xs:Array aw)(i:Nat):Int:=match xs[i]? with|some p=>rk p|none=>0
theorem jV{xs ys:Array aw}{i j:Nat}(h:xs[i]?=ys[j]?):R rk xs i=R rk ys j:=by unfold R;rw[h]
theorem iQ{xs:Array aw}{i:Nat}{x:aw}(h:xs[i]?=some x):R rk xs i=rk x:=by unfold R;rw[h]
noncomputable def Up(rk:aw->Int)(xs:Array aw)(lo n:Nat):Prop:=∀i j,i<=j->j < n->R rk xs (lo + i)<=R rk xs (lo + j)
noncomputable def Dn(rk:aw->Int)(xs:Array aw)(lo n:Nat):Prop:=∀i j,i<=j->j < n->R rk xs (lo + j)<=R rk xs (lo + i)
structure SB (κ:fx)(a₀ x0:Array aw)(p0:Array (Nat×Nat×Nat))(lo:Nat)(st:bo):Prop where
 perm:(ay st).Perm a₀
 kind:kindOf st=κ
 failed:fy st=none
 pend:b9 st=p0
 keep:∀k,k < lo->(ay st)[k]?=x0[k]?
theorem SB.size{st:bo}(h:SB κ a₀ x0 p0 lo st):(ay st).size=a₀.size:=h.perm.size_eq
theorem SB.setArr{st:bo}(h:SB κ a₀ x0 p0 lo st){xs:Array aw}(hp:xs.Perm (ay st))(hk:∀k,k < lo->xs[k]?=(ay st)[k]?):SB κ a₀ x0 p0 lo (setArr st xs) :=
 ⟨hp.trans h.perm,h.kind,h.failed,h.pend,fun k hl=>(hk k hl).trans (h.keep k hl)⟩
theorem Um{xs:Array aw}(hp:xs.Perm a₀){i:Nat}{x:aw}(h:xs[i]?=some x):x∈a₀.toList:=by obtain⟨hi,rfl⟩:=gi.mp h;exact(q8.mp hp).mem_iff.mp (by simp)
theorem bY{st:bo}{xs:Array aw}{i:Nat}{x:aw}{Q:aw->bo->Prop}(h:xs[i]?=some x)(hq:Q x st):wpS (ax prog w) A E s (c9 xs i) Q st:=by rw[elem'_eq,h];exact br hq
theorem zf{st:bo}{x y:aw}{Q:Option Bool->bo->Prop}(ha:Ax prog w A s κ rk a₀)(hk:kindOf st=κ)(hx:x∈a₀.toList)(hy:y∈a₀.toList)(h:Q (some (decide (rk x < rk y))) st) :
  wpS (ax prog w) A E s (lt' x y) Q st:=by
 rw[lt'_eq];refine bb (g_ ?_);rw[hk];refine bb (ls (ja (ha x y _ _ hx hy ⟨rfl,?_⟩)));exact br h
theorem ur{st:bo}{i j:Nat}{Q:Option Bool->bo->Prop}(ha:Ax prog w A s κ rk a₀)(hB:SB κ a₀ x0 p0 lo st)(hi:i < a₀.size)(hj:j < a₀.size)
  (h:Q (some (decide (R rk (ay st) i < R rk (ay st) j))) st):wpS (ax prog w) A E s (ltAt' i j) Q st:=by
 have e1:(ay st)[i]?=some ((ay st)[i]'(by rw[hB.size];exact hi)):=getElem?_pos _ i _;have e2:(ay st)[j]?=some ((ay st)[j]'(by rw[hB.size];exact hj)):=getElem?_pos _ j _;rw[iQ e1,iQ e2]at h;rw[ltAt'_eq];refine bb (g_ ?_);exact bb (bY e1 (bb (bY e2 (zf ha hB.kind (Um hB.perm e1) (Um hB.perm e2) h))))
theorem xZ{st:bo}{i j:Nat}{Q:Unit->bo->Prop}(h:Q () (setArr st (iE (ay st) i j ((j - i) / 2)))) :
  wpS (ax prog w) A E s (oQ i j) Q st:=by
 rw[reverseSlice'_eq];exact jn h
theorem zj{xs:Array aw}{i j:Nat}(hj:j<=xs.size)(k:Nat) :
  R rk (iE xs i j ((j - i) / 2)) k=if i<=k/\k < j then R rk xs (i + j - 1 - k) else R rk xs k:=by
 have e:=getElem?_mirror_all (i:=i) hj k;by_cases h1:i<=k/\k < j
 ·rw[if_pos h1]at e ⊢;exact jV e
 ·rw[if_neg h1]at e ⊢;exact jV e
theorem gw{xs:Array aw}{i j:Nat}(hj:j<=xs.size)(heq:∀k,i<=k->k < j->R rk xs k=R rk xs (j - 1))(k:Nat) :
  R rk (iE xs i j ((j - i) / 2)) k=R rk xs k:=by
 rw[zj hj];split
 ·rw[heq _ (by lia) (by lia),heq k (by lia) (by lia)]
 ·rfl
theorem SB.rev{st:bo}(h:SB κ a₀ x0 p0 lo st){i j:Nat}(hi:lo<=i)(hj:j<=a₀.size):SB κ a₀ x0 p0 lo (PyProof.Rows.setArr st (iE (ay st) i j ((j - i) / 2))) :=
 h.setArr (mirror_perm _ _ _ _) fun k hk=>by rw[getElem?_mirror_all (by rw[h.size];exact hj),if_neg (by lia)]
noncomputable def Uo(lo a nrem:Nat):StateT bo Sem AscSt :=
 forIn [a:nrem] ((none,a):AscSt) fun _ __s=>do
  let __x <- ltAt' (lo + __s.snd) (lo + __s.snd - 1)
  match __x with
  |some smaller=>if smaller=true then pure (ForInStep.done (none,__s.snd)) else pure (ForInStep.yield (none,__s.snd + 1))
  |_=>pure (ForInStep.done (some none,__s.snd))
noncomputable def GX(lo n nrem:Nat):StateT bo Sem (Option Nat):=do
 oQ lo (lo + n)
 let __s <- Uo lo n nrem
 match __s.fst with
 |some r=>pure r
 |none=>pure (some __s.snd)
noncomputable def Np(lo n nrem:Nat):StateT bo Sem DescSt :=
 forIn [n:nrem] ((none,n,0):DescSt) fun _ __s=>do
  let __x <- ltAt' (lo + __s.snd.fst) (lo + __s.snd.fst - 1)
  match __x with
  |some smaller =>
   if smaller=true then
    if __s.snd.snd > 0 then do
     oQ (lo + __s.snd.fst - (__s.snd.snd + 1)) (lo + __s.snd.fst)
     pure (ForInStep.yield (none,__s.snd.fst + 1,0))
    else pure (ForInStep.yield (none,__s.snd.fst + 1,0))
   else do
    let __x <- ltAt' (lo + __s.snd.fst - 1) (lo + __s.snd.fst)
    match __x with
    |some larger =>
     if larger=true then pure (ForInStep.done (none,__s.snd.fst,__s.snd.snd))
     else pure (ForInStep.yield (none,__s.snd.fst + 1,__s.snd.snd + 1))
    |_=>pure (ForInStep.done (some none,__s.snd.fst,__s.snd.snd))
  |_=>pure (ForInStep.done (some none,__s.snd.fst,__s.snd.snd))
noncomputable def GZ(lo n nrem:Nat):StateT bo Sem (Option Nat):=do
 liftM (rule "list.sort.descending-run")
 let __s <- Np lo (n + 1) nrem
 match __s.fst with
 |some r=>pure r
 |none =>
  if __s.snd.snd > 0 then do
   oQ (lo + __s.snd.fst - (__s.snd.snd + 1)) (lo + __s.snd.fst)
   GX lo __s.snd.fst nrem
  else GX lo __s.snd.fst nrem
theorem Uq(lo nrem:Nat):countRun' lo nrem=(do
  let __s <- Uo lo 1 nrem
  match __s.fst with
  |some r=>pure r
  |none =>
   if (__s.snd == nrem)=true then pure (some __s.snd)
   else if __s.snd > 1 then do
    let __x <- ltAt' lo (lo + __s.snd - 1)
    match __x with
    |some rose=>if rose=true then pure (some __s.snd) else do
      oQ lo (lo + __s.snd)
      GZ lo __s.snd nrem
    |_=>pure none
   else GZ lo __s.snd nrem):=by
 rw[countRun'_eq];unfold GZ GX Np Uo;dsimp only;congr 1;funext __s;obtain⟨r,n⟩:=__s;cases r with
 |some r=>rfl
 |none =>
  dsimp only;split
  ·rfl
  ·split
   ·congr 1;funext x;cases x with
    |none=>rfl
    |some rose =>
     dsimp only;split
     ·rfl
     ·congr 1;funext _r;congr 1;funext _u;congr 1;congr 1;funext s2;obtain⟨r2,n2,q2⟩:=s2;cases r2 with
      |some r2=>rfl
      |none =>
       dsimp only;split
       ·congr 1;funext _v;congr 1;funext _w;congr 1;funext s3;obtain⟨r3,n3⟩:=s3;cases r3 <;> rfl
       ·congr 1;funext _w;congr 1;funext s3;obtain⟨r3,n3⟩:=s3;cases r3 <;> rfl
   ·congr 1;funext _u;congr 1;congr 1;funext s2;obtain⟨r2,n2,q2⟩:=s2;cases r2 with
    |some r2=>rfl
    |none =>
     dsimp only;split
     ·congr 1;funext _v;congr 1;funext _w;congr 1;funext s3;obtain⟨r3,n3⟩:=s3;cases r3 <;> rfl
     ·congr 1;funext _w;congr 1;funext s3;obtain⟨r3,n3⟩:=s3;cases r3 <;> rfl
end
section
variable{prog:aE}{w:az}{A:aI}{E:aa->af->Prop}{s:af}{a₀ x0:Array aw}{κ:fx}{rk:aw->Int}{lo:Nat}{p0:Array (Nat×Nat×Nat)}
theorem Nq{st:bo}{a nrem:Nat}{Q:AscSt->bo->Prop}(h0:Ax prog w A s κ rk a₀)(hn:lo + nrem<=a₀.size)(ha:1<=a)(han:a<=nrem)(hB:SB κ a₀ x0 p0 lo st)
  (hs:Up rk (ay st) lo a)
  (h:∀n,a<=n->n<=nrem->Up rk (ay st) lo n->(n=nrem∨R rk (ay st) (lo + n) < R rk (ay st) (lo + (n - 1)))->Q (none,n) st) :
  wpS (ax prog w) A E s (Uo lo a nrem) Q st:=by
 unfold Uo;refine fv (I:=fun x c st'=>st'=st/\c=(none,x)/\Up rk (ay st) lo x) ?step ?dY ⟨rfl,rfl,hs⟩
 case dY =>
  rintro c st' ⟨rfl,rfl,hs'⟩;rw[show max a nrem=nrem by lia]at hs' ⊢;exact h nrem han (bz _) hs' (.inl rfl)
 case step =>
  rintro x c st' hax hxn ⟨rfl,rfl,hs'⟩;dsimp only;rw[show lo + x - 1=lo + (x - 1) by lia];refine bb (ur h0 hB (by lia) (by lia) ?_);by_cases hless:R rk (ay st') (lo + x) < R rk (ay st') (lo + (x - 1))
  ·simp only[hless,decide_true,if_true];exact br (h x hax (by lia) hs' (.inr hless))
  ·simp only[hless,decide_false,cn,if_false];refine br ⟨rfl,rfl,fun i j hij hj=>?_⟩;by_cases hjx:j < x
   ·exact hs' i j hij hjx
   ·have hj':j=x:=by lia
    subst hj';by_cases hi':i=j
    ·subst hi';exact hG _
    ·exact eR (hs' i (j - 1) (by lia) (by lia)) (oS.mp hless)
theorem Bw{st:bo}{n nrem:Nat}{Q:Option Nat->bo->Prop}(h0:Ax prog w A s κ rk a₀)(hn:lo + nrem<=a₀.size)(h1:1<=n)(hnn:n<=nrem)(hB:SB κ a₀ x0 p0 lo st)
  (hs:Dn rk (ay st) lo n) (h:∀m st',SB κ a₀ x0 p0 lo st'->1<=m->m<=nrem->Up rk (ay st') lo m->Q (some m) st') :
  wpS (ax prog w) A E s (GX lo n nrem) Q st:=by
 unfold GX;have hsz:lo + n<=(ay st).size:=by rw[hB.size];lia
 refine bb (xZ ?_);have hB':SB κ a₀ x0 p0 lo (setArr st (iE (ay st) lo (lo + n) ((lo + n - lo) / 2))):=hB.rev (bz _) (by lia);refine bb (Nq h0 hn h1 hnn hB' ?_ fun m hm1 hm2 hsm _=>br (h m _ hB' (by lia) hm2 hsm));intro i j hij hj;show R rk (iE (ay st) lo (lo + n) ((lo + n - lo) / 2)) (lo + i)<=R rk (iE (ay st) lo (lo + n) ((lo + n - lo) / 2)) (lo + j);rw[zj hsz,zj hsz,if_pos (by lia),if_pos (by lia)];have:=hs (n - 1 - j) (n - 1 - i) (by lia) (by lia);rw[show lo + (lo + n) - 1 - (lo + i)=lo + (n - 1 - i) by lia,show lo + (lo + n) - 1 - (lo + j)=lo + (n - 1 - j) by lia];exact this
theorem Ur{st:bo}{n nrem:Nat}{Q:DescSt->bo->Prop}(h0:Ax prog w A s κ rk a₀)(hn:lo + nrem<=a₀.size)(h1:1<=n)(hnn:n<=nrem)(hB:SB κ a₀ x0 p0 lo st)
  (hs:Dn rk (ay st) lo n)
  (h:∀m neq st',SB κ a₀ x0 p0 lo st'->n<=m->m<=nrem->Dn rk (ay st') lo m->neq + 1<=m->(∀i,lo + m - (neq + 1)<=i->i < lo + m->R rk (ay st') i=R rk (ay st') (lo + m - 1))->Q (none,m,neq) st') :
  wpS (ax prog w) A E s (Np lo n nrem) Q st:=by
 unfold Np;refine fv (I:=fun x c st'=>∃neq,c=(none,x,neq)/\SB κ a₀ x0 p0 lo st'/\Dn rk (ay st') lo x/\neq + 1<=x /\
   (∀i,lo + x - (neq + 1)<=i->i < lo + x->R rk (ay st') i=R rk (ay st') (lo + x - 1))) ?step ?dY ⟨0,rfl,hB,hs,by lia,fun i h1 h2=>by congr 1;lia⟩
 case dY =>
  rintro c st' ⟨neq,rfl,hB',hs',hq,he⟩;rw[show max n nrem=nrem by lia]at hs' hq he ⊢;exact h nrem neq st' hB' hnn (bz _) hs' hq he
 case step =>
  rintro x c st' hax hxn ⟨neq,rfl,hB',hs',hq,he⟩;dsimp only;have hsz:lo + x<=(ay st').size:=by rw[hB'.size];lia
  have e1:lo + x - 1=lo + (x - 1):=by lia
  refine bb (ur h0 hB' (by lia) (by lia) ?_);by_cases hless:R rk (ay st') (lo + x) < R rk (ay st') (lo + x - 1)
  ·simp only[hless,decide_true,if_true];rw[e1]at hless;have step1:∀xs:Array aw,(∀k,R rk xs k=R rk (ay st') k)->Dn rk xs lo (x + 1):=by
    intro xs hk i j hij hj;rw[hk,hk];by_cases hjx:j < x
    ·exact hs' i j hij hjx
    ·have hj':j=x:=by lia
     subst hj';by_cases hi':i=j
     ·subst hi';exact hG _
     ·exact eR (gN hless) (hs' i (j - 1) (by lia) (by lia))
   by_cases hneq:neq > 0
   ·rw[if_pos hneq];refine bb (xZ (br ⟨0,rfl,hB'.rev (by lia) (by lia),step1 _ (gw hsz he),by lia,fun i h1 h2=>by congr 1;lia⟩))
   ·rw[if_neg hneq];exact br ⟨0,rfl,hB',step1 _ (fun _=>rfl),by lia,fun i h1 h2=>by congr 1;lia⟩
  ·simp only[hless,decide_false,cn,if_false];refine bb (ur h0 hB' (by lia) (by lia) ?_);by_cases hlarger:R rk (ay st') (lo + x - 1) < R rk (ay st') (lo + x)
   ·simp only[hlarger,decide_true,if_true];exact br (h x neq st' hB' hax (by lia) hs' hq he)
   ·simp only[hlarger,decide_false,cn,if_false];have heqx:R rk (ay st') (lo + x)=R rk (ay st') (lo + x - 1):=by lia
    refine br ⟨neq + 1,rfl,hB',fun i j hij hj=>?_,by lia,fun i h1 h2=>?_⟩
    ·by_cases hjx:j < x
     ·exact hs' i j hij hjx
     ·have hj':j=x:=by lia
      subst hj';by_cases hi':i=j
      ·subst hi';exact hG _
      ·rw[heqx,e1];exact hs' i (j - 1) (by lia) (by lia)
    ·rw[show lo + (x + 1) - 1=lo + x by lia];by_cases hix:i=lo + x
     ·subst hix;rfl
     ·rw[heqx];exact he i (by lia) (by lia)
theorem Bx{st:bo}{n nrem:Nat}{Q:Option Nat->bo->Prop}(h0:Ax prog w A s κ rk a₀)(hn:lo + nrem<=a₀.size)(hnn:n + 1<=nrem)(hB:SB κ a₀ x0 p0 lo st)
  (hs:Dn rk (ay st) lo (n + 1)) (h:∀m st',SB κ a₀ x0 p0 lo st'->1<=m->m<=nrem->Up rk (ay st') lo m->Q (some m) st') :
  wpS (ax prog w) A E s (GZ lo n nrem) Q st:=by
 unfold GZ;refine bb (ls (f7 ⟨rfl,?_⟩));refine bb (Ur h0 hn (by lia) hnn hB hs fun m neq st' hB' hm1 hm2 hs' hq he=>?_);dsimp only;have hsz:lo + m<=(ay st').size:=by rw[hB'.size];lia
 by_cases hneq:neq > 0
 ·rw[if_pos hneq];refine bb (xZ (Bw h0 hn (by lia) hm2 (hB'.rev (by lia) (by lia)) ?_ h));intro i j hij hj;show R rk (iE (ay st') _ _ _) _<=R rk (iE (ay st') _ _ _) _;rw[gw hsz he,gw hsz he];exact hs' i j hij hj
 ·rw[if_neg hneq];exact Bw h0 hn (by lia) hm2 hB' hs' h
theorem Qn{st:bo}{nrem:Nat}{Q:Option Nat->bo->Prop}(h0:Ax prog w A s κ rk a₀)(hn:lo + nrem<=a₀.size)(h1:1<=nrem)(hB:SB κ a₀ x0 p0 lo st)
  (h:∀m st',SB κ a₀ x0 p0 lo st'->1<=m->m<=nrem->Up rk (ay st') lo m->Q (some m) st') :
  wpS (ax prog w) A E s (countRun' lo nrem) Q st:=by
 rw[Uq];refine bb (Nq h0 hn (bz 1) h1 hB (fun i j hij hj=>by have e:i=j:=by { lia };subst e;exact hG _) fun n hn1 hn2 hsn hor=>?_);dsimp only;by_cases hnn:n=nrem
 ·rw[if_pos (by simpa using hnn)];exact br (h n st hB hn1 hn2 hsn)
 ·rw[if_neg (by simpa using hnn)];have hlt:R rk (ay st) (lo + n) < R rk (ay st) (lo + (n - 1)):=hor.resolve_left hnn;by_cases hgt:n > 1
  ·rw[if_pos hgt,show lo + n - 1=lo + (n - 1) by lia];refine bb (ur h0 hB (by lia) (by lia) ?_);by_cases hrose:R rk (ay st) lo < R rk (ay st) (lo + (n - 1))
   ·simp only[hrose,decide_true,if_true];exact br (h n st hB hn1 hn2 hsn)
   ·simp only[hrose,decide_false,cn,if_false];have hsz:lo + n<=(ay st).size:=by rw[hB.size];lia
    have hall':∀k,k < n->R rk (ay st) (lo + k)=R rk (ay st) (lo + (n - 1)):=by intro k hk;have a1:=hsn 0 k (by lia) hk;have a2:=hsn k (n - 1) (by lia) (by lia);rw[m_]at a1;lia
    have hall:∀k,lo<=k->k < lo + n->R rk (ay st) k=R rk (ay st) (lo + n - 1):=fun k k1 k2=>by have:=hall' (k - lo) (by lia);rw[show lo + (k - lo)=k by lia]at this;rw[this];congr 1;lia
    refine bb (xZ (Bx h0 hn (by lia) (hB.rev (bz _) (by lia)) ?_ h));intro i j hij hj;show R rk (iE (ay st) _ _ _) _<=R rk (iE (ay st) _ _ _) _;rw[gw hsz hall,gw hsz hall];by_cases hjn:j < n
    ·rw[hall' i (by lia),hall' j hjn];exact hG _
    ·obtain rfl:j=n:=by lia
     by_cases hi':i=j
     ·subst hi';exact hG _
     ·rw[hall' i (by lia)];exact gN hlt
  ·rw[if_neg hgt];obtain rfl:n=1:=by lia
   refine Bx h0 hn (by lia) hB ?_ h;intro i j hij hj;by_cases hi':i=j
   ·subst hi';exact hG _
   ·obtain rfl:i=0:=by lia
    obtain rfl:j=1:=by lia
    exact gN hlt
theorem Hf{xs:Array aw}{src d:Nat}(hs:src < xs.size)(hd:d<=src)(k:Nat) :
  R rk (bubble xs src d) k=if k=src - d then R rk xs src else if src - d < k/\k<=src then R rk xs (k - 1) else R rk xs k:=by
 have e:=getElem?_bubble hs d hd k;by_cases h1:k=src - d
 ·rw[if_pos h1]at e ⊢;exact jV e
 ·rw[if_neg h1]at e ⊢;by_cases h2:src - d < k/\k<=src
  ·rw[if_pos h2]at e ⊢;exact jV e
  ·rw[if_neg h2]at e ⊢;exact jV e
theorem Zo{st:bo}{n ok:Nat}{Q:Bool->bo->Prop}(h0:Ax prog w A s κ rk a₀)(hn:lo + n<=a₀.size)(hok:ok<=n)(hB:SB κ a₀ x0 p0 lo st)(hs:Up rk (ay st) lo ok)
  (h:∀st',SB κ a₀ x0 p0 lo st'->Up rk (ay st') lo n->Q true st'):wpS (ax prog w) A E s (binarySort' lo n ok) Q st:=by
 rw[binarySort'_eq];refine bb (eJ (fv (I:=fun k c st'=>c=(none,())/\SB κ a₀ x0 p0 lo st'/\Up rk (ay st') lo (min k n))
  (Q:=fun c st'=>c=(none,())/\SB κ a₀ x0 p0 lo st'/\Up rk (ay st') lo n) ?step ?dY ?init) ?post)
 case post =>
  rintro c st' ⟨rfl,hB',hs'⟩;exact br (h st' hB' hs')
 case init =>
  refine⟨rfl,hB,fun i j hij hj=>?_⟩;by_cases h1:ok=0
  ·obtain rfl:i=j:=by lia
   exact hG _
  ·exact hs i j hij (by lia)
 case dY =>
  rintro c st' ⟨hc,hB',hs'⟩;refine⟨hc,hB',?_⟩;rwa [show min (max (max ok 1) n) n=n by lia]at hs'
 case step =>
  rintro k c st' hak hkn ⟨rfl,hB',hs'⟩;rw[show min k n=k by lia]at hs';have hk:lo + k < a₀.size:=by lia
  refine bb (eJ (fv (I:=fun x c st''=>st''=st'/\∃l r,c=(none,l,r)/\l<=r/\r<=k/\r - l<=k - x /\
    (∀i,i < l->R rk (ay st') (lo + i)<=R rk (ay st') (lo + k))/\(∀i,r<=i->i < k->R rk (ay st') (lo + k) < R rk (ay st') (lo + i)))
   (Q:=fun c st''=>st''=st'/\∃l r,c=(none,l,r)/\l<=k /\
    (∀i,i < l->R rk (ay st') (lo + i)<=R rk (ay st') (lo + k))/\(∀i,l<=i->i < k->R rk (ay st') (lo + k) < R rk (ay st') (lo + i))) ?istep ?ifin ?iinit) ?ipost)
  case iinit=>exact⟨rfl,0,k,rfl,by lia,by lia,by lia,fun i hi=>by lia,fun i h1 h2=>by lia⟩
  case ifin =>
   rintro c st'' ⟨rfl,l,r,rfl,hlr,hrk,hm,hlo,hhi⟩;obtain rfl:l=r:=by lia
   exact⟨rfl,l,l,rfl,hrk,hlo,hhi⟩
  case istep =>
   rintro x c st'' _ hxk ⟨rfl,l,r,rfl,hlr,hrk,hm,hlo,hhi⟩;dsimp only;by_cases hge:l ≥ r
   ·rw[if_pos hge];obtain rfl:l=r:=by lia
    exact br ⟨rfl,l,l,rfl,hrk,hlo,hhi⟩
   ·rw[if_neg hge];refine bb (ur h0 hB' hk (by lia) ?_);by_cases hless:R rk (ay st'') (lo + k) < R rk (ay st'') (lo + (l + r) / 2)
    ·simp only[hless,decide_true,if_true];refine br ⟨rfl,l,(l + r) / 2,rfl,by lia,by lia,by lia,hlo,fun i h1 h2=>?_⟩;exact Int.lt_of_lt_of_le hless (hs' _ _ h1 h2)
    ·simp only[hless,decide_false,cn,if_false];refine br ⟨rfl,(l + r) / 2 + 1,r,rfl,by lia,by lia,by lia,fun i h1=>?_,hhi⟩;exact eR (hs' i ((l + r) / 2) (by lia) (by lia)) (oS.mp hless)
  case ipost =>
   rintro c st'' ⟨rfl,l,r,rfl,hlk,hlo,hhi⟩;show wpS _ _ _ _ (do moveDown' (lo + k) (lo + l);pure (ForInStep.yield (none,()))) _ _;rw[moveDown'_eq];have hks:lo + k < (ay st'').size:=by rw[hB'.size];exact hk
   refine bb (jn (br ⟨rfl,hB'.setArr (bubble_perm _ _ _) (fun q hq=>?_),?_⟩))
   ·rw[getElem?_bubble hks _ (by lia),if_neg (by lia),if_neg (by lia)]
   rw[show min (k + 1) n=k + 1 by lia];intro i j hij hj;show R rk (bubble (ay st'') (lo + k) (lo + k - (lo + l))) (lo + i)<=R rk (bubble (ay st'') (lo + k) (lo + k - (lo + l))) (lo + j);rw[Hf hks (by lia),Hf hks (by lia),show lo + k - (lo + k - (lo + l))=lo + l by lia];have pre:∀q,lo + l < lo + q->lo + q - 1=lo + (q - 1):=fun q hq=>by lia
   repeat' split
   all_goals first
    | (exfalso;lia)
    |exact hG _
    |exact hlo _ (by lia)
    | (rw[pre _ (by lia)];exact gN (hhi _ (by lia) (by lia)))
    |exact hs' _ _ (by lia) (by lia)
    | (rw[pre _ (by lia)];exact hs' _ _ (by lia) (by lia))
    | (rw[pre _ (by lia),pre _ (by lia)];exact hs' _ _ (by lia) (by lia))
end
noncomputable def iy:Bool->Keyed->Array Keyed->Nat->Nat->Nat->StateT SortSt Sem (Option Nat):=sortPriv% PySem.Builtin.gallop
noncomputable def bey(left:Bool)(key:aw)(arr:Array aw)(base i:Nat):StateT bo Sem (Option Bool):=do
 let x <- c9 arr (base + i)
 if left then lt' x key else return (<- lt' key x).map (!·)
theorem JN(left:Bool)(key:aw)(arr:Array aw)(base n hint:Nat):iy left key arr base n hint=(do
 let mut lastofs:=0
 let mut ofs:=1
 let mut lo:=0
 let mut hi:=0
 let some right <- bey left key arr base hint|return none
 if right then
  let maxofs:=n - hint
  for _ in [0:n] do
   if ofs ≥ maxofs then break
   let some more <- bey left key arr base (hint + ofs)|return none
   if !more then break
   lastofs:=ofs
   ofs:=2 * ofs + 1
  lo:=hint + lastofs + 1
  hi:=hint + min ofs maxofs
 else
  let maxofs:=hint + 1
  for _ in [0:n] do
   if ofs ≥ maxofs then break
   let some found <- bey left key arr base (hint - ofs)|return none
   if found then break
   lastofs:=ofs
   ofs:=2 * ofs + 1
  lo:=hint + 1 - min ofs maxofs
  hi:=hint - lastofs
 for _ in [0:n] do
  if lo ≥ hi then break
  let m:=lo + (hi - lo) / 2
  let some more <- bey left key arr base m|return none
  if more then lo:=m + 1 else hi:=m
 return some hi):=rfl
section
variable{prog:aE}{w:az}{A:aI}{E:aa->af->Prop}{s:af}{a₀ x0:Array aw}{κ:fx}{rk:aw->Int}{lo:Nat}{p0:Array (Nat×Nat×Nat)}
noncomputable def bp(rk:aw->Int)(left:Bool)(key:aw)(arr:Array aw)(base i:Nat):Bool:=if left then decide (R rk arr (base + i) < rk key) else decide (R rk arr (base + i)<=rk key)
theorem yc{st:bo}{left:Bool}{key:aw}{arr:Array aw}{base i:Nat}{Q:Option Bool->bo->Prop}(h0:Ax prog w A s κ rk a₀)(hk:kindOf st=κ)(hm:key∈a₀.toList)(ha:∀x∈arr.toList,x∈a₀.toList)(hi:base + i < arr.size)
  (h:Q (some (bp rk left key arr base i)) st):wpS (ax prog w) A E s (bey left key arr base i) Q st:=by
 have e:arr[base + i]?=some arr[base + i]:=getElem?_pos arr _ hi;have hx:arr[base + i]∈a₀.toList:=ha _ (by simp);unfold bp at h;rw[iQ e]at h;unfold bey;refine bb (bY e ?_);cases left with
 |true=>simp only[if_true]at h ⊢;exact zf h0 hk hx hm h
 |false =>
  simp only[cn,if_false]at h ⊢;refine bb (zf h0 hk hm hx (br ?_));have:(some (decide (rk key < rk arr[base + i]))).map (!·)=some (decide (rk arr[base + i]<=rk key)):=by simp only[vk,<- decide_not,oS]
  rw[this];exact h
theorem Zq{left:Bool}{key:aw}{arr:Array aw}{base n:Nat}(hu:Up rk arr base n){i j:Nat}(hij:i<=j)(hj:j < n)(h:bp rk left key arr base j=true):bp rk left key arr base i=true:=by have:=hu i j hij hj;unfold bp at h ⊢;cases left <;> simp at h ⊢ <;> lia
theorem jM{st:bo}{left:Bool}{key:aw}{arr:Array aw}{base n hint:Nat}{Q:Option Nat->bo->Prop}(h0:Ax prog w A s κ rk a₀)(hk:kindOf st=κ)(hm:key∈a₀.toList)(ha:∀x∈arr.toList,x∈a₀.toList)
  (hb:base + n<=arr.size) (hh:hint < n) (hu:Up rk arr base n)
  (h:∀k,k<=n->(∀i,i < k->bp rk left key arr base i=true)->(∀i,k<=i->i < n->bp rk left key arr base i=false)->Q (some k) st) :
  wpS (ax prog w) A E s (iy left key arr base n hint) Q st:=by
 have mono:=fun {i j:Nat}(hij:i<=j) (hj:j < n)=>Zq (left:=left) (key:=key) hu hij hj;have Us:∀{i j:Nat},i<=j->j < n->bp rk left key arr base i=false->bp rk left key arr base j=false:=fun {i j} hij hj hf=>by
  cases c:bp rk left key arr base j with
  |false=>rfl
  |true=>rw[mono hij hj c]at hf;cases hf
 have last:∀(l0 h0':Nat),l0<=h0'->h0'<=n->(∀i,i < l0->bp rk left key arr base i=true)->(∀i,h0'<=i->i < n->bp rk left key arr base i=false) ->
   ∀(f:Nat->Option (Option Nat)×Nat×Nat->StateT bo Sem (ForInStep (Option (Option Nat)×Nat×Nat))) (k:Option (Option Nat)×Nat×Nat->StateT bo Sem (Option Nat)),
   (∀x l hi,f x (none,l,hi)=if l ≥ hi then pure (ForInStep.done (none,l,hi)) else do
    let __x <- bey left key arr base (l + (hi - l) / 2)
    match __x with
    |some more=>if more=true then pure (ForInStep.yield (none,l + (hi - l) / 2 + 1,hi)) else pure (ForInStep.yield (none,l,l + (hi - l) / 2))
    |_=>pure (ForInStep.done (some none,l,hi)))->(∀l hi,k (none,l,hi)=pure (some hi)) ->
   wpS (ax prog w) A E s (do let r <- forIn [0:n] (none,l0,h0') f;k r) Q st:=by
  intro l0 h0' hlh hhn hlo hhi f k hf hkk;refine bb (eJ (fv (I:=fun x c st'=>st'=st/\∃l r,c=(none,l,r)/\l<=r/\r<=n/\r - l<=n - x/\(∀i,i < l->bp rk left key arr base i=true)/\(∀i,r<=i->i < n->bp rk left key arr base i=false))
   (Q:=fun c st'=>st'=st/\∃r,c=(none,r,r)/\r<=n/\(∀i,i < r->bp rk left key arr base i=true)/\(∀i,r<=i->i < n->bp rk left key arr base i=false)) ?step ?dY ⟨rfl,l0,h0',rfl,hlh,hhn,by lia,hlo,hhi⟩) ?post)
  case post =>
   rintro c st' ⟨rfl,r,rfl,h1,h2,h3⟩;rw[hkk];exact br (h r h1 h2 h3)
  case dY =>
   rintro c st' ⟨rfl,l,r,rfl,h1,h2,h3,h4,h5⟩;obtain rfl:l=r:=by lia
   exact⟨rfl,l,rfl,h2,h4,h5⟩
  case step =>
   rintro x c st' _ hx ⟨rfl,l,r,rfl,h1,h2,h3,h4,h5⟩;rw[hf];by_cases hge:l ≥ r
   ·rw[if_pos hge];obtain rfl:l=r:=by lia
    exact br ⟨rfl,l,rfl,h2,h4,h5⟩
   ·rw[if_neg hge];refine bb (yc h0 hk hm ha (by lia) ?_);cases c:bp rk left key arr base (l + (r - l) / 2) with
    |true =>
     simp only[if_true];exact br ⟨rfl,_,r,rfl,by lia,h2,by lia,fun i hi=>mono (show i<=l + (r - l) / 2 by lia) (by lia) c,h5⟩
    |false =>
     simp only[cn,if_false];exact br ⟨rfl,l,_,rfl,by lia,by lia,by lia,h4,fun i h6 h7=>Us h6 h7 c⟩
 rw[JN];dsimp only;refine bb (yc h0 hk hm ha (by lia) ?_);cases c:bp rk left key arr base hint with
 |true =>
  simp only[if_true];refine bb (eJ (fv (I:=fun x c st'=>st'=st/\∃lf ou,c=(none,lf,ou)/\x + 1<=ou/\lf < ou/\hint + lf < n/\bp rk left key arr base (hint + lf)=true)
   (Q:=fun c st'=>st'=st/\∃lf ou,c=(none,lf,ou)/\lf < ou/\hint + lf < n/\bp rk left key arr base (hint + lf)=true/\(n - hint<=ou∨(hint + ou < n/\bp rk left key arr base (hint + ou)=false))) ?step ?dY ⟨rfl,0,1,rfl,by lia,by lia,by lia,c⟩) ?post)
  case post =>
   rintro c st' ⟨rfl,lf,ou,rfl,h1,h2,h3,h4⟩;refine last (hint + lf + 1) (hint + min ou (n - hint)) (by lia) (by lia) (fun i hi=>mono (show i<=hint + lf by lia) h2 h3) (fun i h5 h6=>?_) _ _ (fun x l hi=>rfl) (fun l hi=>rfl);rcases h4 with h4|⟨h7,h8⟩
   ·lia
   ·exact Us (show hint + ou<=i by lia) h6 h8
  case dY =>
   rintro c st' ⟨rfl,lf,ou,rfl,h1,h2,h3,h4⟩;exact⟨rfl,lf,ou,rfl,h2,h3,h4,.inl (by lia)⟩
  case step =>
   rintro x c st' _ hx ⟨rfl,lf,ou,rfl,h1,h2,h3,h4⟩;dsimp only;by_cases hge:ou ≥ n - hint
   ·rw[if_pos hge];exact br ⟨rfl,lf,ou,rfl,h2,h3,h4,.inl hge⟩
   ·rw[if_neg hge];refine bb (yc h0 hk hm ha (by lia) ?_);cases d:bp rk left key arr base (hint + ou) with
    |true =>
     simp only[gp,cn,if_false];exact br ⟨rfl,ou,2 * ou + 1,rfl,by lia,by lia,by lia,d⟩
    |false =>
     simp only[o3,if_true];exact br ⟨rfl,lf,ou,rfl,h2,h3,h4,.inr ⟨by lia,d⟩⟩
 |false =>
  simp only[cn,if_false];refine bb (eJ (fv (I:=fun x c st'=>st'=st/\∃lf ou,c=(none,lf,ou)/\x + 1<=ou/\lf < ou/\lf<=hint/\bp rk left key arr base (hint - lf)=false)
   (Q:=fun c st'=>st'=st/\∃lf ou,c=(none,lf,ou)/\lf < ou/\lf<=hint/\bp rk left key arr base (hint - lf)=false/\(hint + 1<=ou∨(ou<=hint/\bp rk left key arr base (hint - ou)=true))) ?step ?dY ⟨rfl,0,1,rfl,by lia,by lia,by lia,c⟩) ?post)
  case post =>
   rintro c st' ⟨rfl,lf,ou,rfl,h1,h2,h3,h4⟩;refine last (hint + 1 - min ou (hint + 1)) (hint - lf) (by lia) (by lia) (fun i hi=>?_) (fun i h5 h6=>Us h5 h6 h3) _ _ (fun x l hi=>rfl) (fun l hi=>rfl);rcases h4 with h4|⟨h7,h8⟩
   ·lia
   ·exact mono (show i<=hint - ou by lia) (by lia) h8
  case dY =>
   rintro c st' ⟨rfl,lf,ou,rfl,h1,h2,h3,h4⟩;exact⟨rfl,lf,ou,rfl,h2,h3,h4,.inl (by lia)⟩
  case step =>
   rintro x c st' _ hx ⟨rfl,lf,ou,rfl,h1,h2,h3,h4⟩;dsimp only;by_cases hge:ou ≥ hint + 1
   ·rw[if_pos hge];exact br ⟨rfl,lf,ou,rfl,h2,h3,h4,.inl hge⟩
   ·rw[if_neg hge];refine bb (yc h0 hk hm ha (by lia) ?_);cases d:bp rk left key arr base (hint - ou) with
    |false =>
     simp only[cn,if_false];exact br ⟨rfl,ou,2 * ou + 1,rfl,by lia,by lia,by lia,d⟩
    |true =>
     simp only[if_true];exact br ⟨rfl,lf,ou,rfl,h2,h3,h4,.inr ⟨by lia,d⟩⟩
end
noncomputable abbrev gW(rk:aw->Int)(l:List aw):Prop:=l.Pairwise fun x y=>rk x<=rk y
structure Mg (rk:aw->Int)(a b out:Array aw)(ia ib:Nat):Prop where
 ha:ia<=a.size
 hb:ib<=b.size
 sz:out.size=ia + ib
 pm:(out.toList++(a.toList.drop ia++b.toList.drop ib)).Perm (a.toList++b.toList)
 up:gW rk out.toList
 bd:∀x∈out.toList,∀y∈a.toList.drop ia++b.toList.drop ib,rk x<=rk y
noncomputable def Aj(rk:aw->Int)(a b m:Array aw):Prop:=m.toList.Perm (a.toList++b.toList)/\gW rk m.toList
section
variable{rk:aw->Int}{a b out:Array aw}{ia ib k:Nat}{x y:aw}
theorem pF(a:Array aw)(i j:Nat):(a.extract i j).toList=(a.toList.drop i).take (j - i):=by rw[Array.toList_extract,List.extract_eq_take_drop]
theorem mH(l:List aw)(i k:Nat):l.drop i=(l.drop i).take k++l.drop (i + k):=by rw[<- List.drop_drop,q9]
theorem Mg.qD(h:Mg rk a b out ia ib)(sa:gW rk a.toList)(hk:ia + k<=a.size)(hc:∀x∈(a.toList.drop ia).take k,∀y∈b.toList.drop ib,rk x<=rk y):Mg rk a b (out++a.extract ia (ia + k)) (ia + k) ib:=by
 have e:(a.extract ia (ia + k)).toList=(a.toList.drop ia).take k:=by rw[pF];congr 1;lia
 have sp:=mH a.toList ia k;have sd:gW rk (a.toList.drop ia):=o6 (List.drop_sublist _ _) sa;rw[sp]at sd;obtain⟨s1,s2,s3⟩:=jv.mp sd;refine⟨hk,h.hb,?_,?_,?_,?_⟩
 ·rw[nh,q_,h.sz];lia
 ·rw[kc,e];refine nc.trans (qS ?_) h.pm
  conv=>rhs;rw[sp]
  simp only[j9]
 ·rw[kc,e];refine jv.mpr ⟨h.up,s1,fun x hx y hy=>h.bd x hx y ?_⟩;rw[sp];simp[hy]
 ·intro x hx y hy;rw[kc,e]at hx;rcases dQ.mp hx with hx|hx
  ·refine h.bd x hx y ?_;rw[sp];rcases dQ.mp hy with hy|hy
   ·simp[hy]
   ·simp[hy]
  ·rcases dQ.mp hy with hy|hy
   ·exact s3 x hx y hy
   ·exact hc x hx y hy
theorem Mg.swap(h:Mg rk a b out ia ib):Mg rk b a out ib ia:=by
 refine⟨h.hb,h.ha,by rw[h.sz,Nat.add_comm],?_,h.up,fun x hx y hy=>h.bd x hx y ?_⟩
 ·refine(rf _ lI).trans (h.pm.trans lI)
 ·rcases dQ.mp hy with hy|hy <;> simp[hy]
theorem Mg.DN(h:Mg rk a b out ia ib)(sb:gW rk b.toList)(hk:ib + k<=b.size)(hc:∀y∈(b.toList.drop ib).take k,∀x∈a.toList.drop ia,rk y<=rk x):Mg rk a b (out++b.extract ib (ib + k)) ia (ib + k) :=
 (h.swap.qD sb hk hc).swap
theorem Nr{a:Array aw}{i:Nat}{x:aw}(h:a[i]?=some x):out.push x=out++a.extract i (i + 1):=by apply vn.mp;rw[Array.toList_push,kc,pF];obtain⟨hi,rfl⟩:=gi.mp h;rw[iq (by simpa using hi),show i + 1 - i=1 by lia];simp
theorem afw{a:Array aw}{i:Nat}{x z:aw}(h:a[i]?=some x)(hz:z∈(a.toList.drop i).take 1):z=x:=by obtain⟨hi,rfl⟩:=gi.mp h;rw[iq (by simpa using hi)]at hz;simpa using hz
theorem pG{a:Array aw}{i:Nat}{x z:aw}(sa:gW rk a.toList)(h:a[i]?=some x)(hz:z∈a.toList.drop i):rk x<=rk z:=by
 obtain⟨hi,rfl⟩:=gi.mp h;have sd:gW rk (a.toList.drop i):=o6 (List.drop_sublist _ _) sa;rw[iq (by simpa using hi)]at hz sd;rcases bP.mp hz with rfl|hz
 ·exact hG _
 ·have:=(gL.mp sd).1 z hz;simpa using this
theorem Mg.wD(h:Mg rk a b out ia ib)(sa:gW rk a.toList)(hx:a[ia]?=some x)(hc:∀y∈b.toList.drop ib,rk x<=rk y):Mg rk a b (out.push x) (ia + 1) ib:=by
 rw[Nr hx];obtain⟨hi,_⟩:=gi.mp hx;exact h.qD sa (by lia) fun z hz y hy=>by rw[afw hx hz];exact hc y hy
theorem Mg.BJ(h:Mg rk a b out ia ib)(sb:gW rk b.toList)(hx:b[ib]?=some x)(hc:∀y∈a.toList.drop ia,rk x<=rk y):Mg rk a b (out.push x) ia (ib + 1):=(h.swap.wD sb hx hc).swap
theorem Mg.done(h:Mg rk a b out ia ib)(sa:gW rk a.toList)(sb:gW rk b.toList)(hc:∀x∈a.toList.drop ia,∀y∈b.toList.drop ib,rk x<=rk y):Aj rk a b (out++a.extract ia a.size++b.extract ib b.size):=by
 have ha:=h.ha;have hb:=h.hb;have h1:=h.qD (k:=a.size - ia) sa (by lia) fun x hx y hy=>hc x (rh hx) y hy;rw[show ia + (a.size - ia)=a.size by lia]at h1;have h2:=h1.DN (k:=b.size - ib) sb (by lia) fun y hy x hx=>by rw[mP (by simp)]at hx;cases hx
 rw[show ib + (b.size - ib)=b.size by lia]at h2;refine⟨?_,h2.up⟩;have:=h2.pm;rw[mP (by simp),mP (by simp)]at this;simpa using this
theorem Mg.Ut(h:Mg rk a b out ia ib)(sa:gW rk a.toList)(sb:gW rk b.toList)(hc:∀y∈b.toList.drop ib,∀x∈a.toList.drop ia,rk y<=rk x):Aj rk a b (out++b.extract ib b.size++a.extract ia a.size):=by obtain⟨h1,h2⟩:=h.swap.done sb sa hc;exact⟨h1.trans lI,h2⟩
theorem lV{a:Array aw}{i k:Nat}{z:aw}(hz:z∈(a.toList.drop i).take k):∃j,j < k/\a[i + j]?=some z:=by
 obtain⟨j,hj⟩:=ny.mp hz;have hk:j < k:=by
  rcases nz j k with h|h
  ·exact h
  ·rw[rn h]at hj;cases hj
 rw[mo hk,o7]at hj;exact⟨j,hk,by simpa using hj⟩
theorem yu{a:Array aw}{i:Nat}{z:aw}(hz:z∈a.toList.drop i):∃j,i + j < a.size/\a[i + j]?=some z:=by
 obtain⟨j,hj⟩:=ny.mp hz;rw[o7]at hj;have h2:a[i + j]?=some z:=by simpa using hj
 exact⟨j,(gi.mp h2).1,h2⟩
theorem Hg(sa:gW rk a.toList)(i n:Nat)(h:i + n<=a.size):Up rk a i n:=by
 intro p q hpq hq;have hp':i + p < a.size:=by lia
 have hq':i + q < a.size:=by lia
 rw[iQ (getElem?_pos a (i + p) hp'),iQ (getElem?_pos a (i + q) hq')];by_cases e:p=q
 ·subst e;exact hG _
 ·have:=ng.mp sa (i + p) (i + q) (by simpa using hp') (by simpa using hq') (by lia);simpa using this
end
noncomputable def zm:Array Keyed->Array Keyed->StateT SortSt Sem (Array Keyed):=sortPriv% PySem.Builtin.mergeLo
noncomputable def oN(g:Nat):StateT bo Sem Unit:=modify fun s=>rL (kindOf s) (ay s) (b9 s) g (fy s)
theorem Hh(a b:Array aw):zm a b=(do
 rule "list.sort.merge-lo"
 let total:=a.size + b.size
 let done (out:Array aw) (ia ib:Nat):=out++a.extract ia a.size++b.extract ib b.size
 let lastOfA (out:Array aw) (ia ib:Nat):=out++b.extract ib b.size++a.extract ia a.size
 let mut out:Array aw:=#[<- c9 b 0]
 let mut ia:=0
 let mut ib:=1
 if ib == b.size then return done out ia ib
 if ia + 1 == a.size then return lastOfA out ia ib
 let mut minGallop:=gallopOf (<- get)
 for _ in [0:total] do
  let mut acount:=0
  let mut bcount:=0
  for _ in [0:total] do
   let some bWins <- lt' (<- c9 b ib) (<- c9 a ia)|return done out ia ib
   if bWins then
    out:=out.push (<- c9 b ib);ib:=ib + 1;bcount:=bcount + 1;acount:=0
    if ib == b.size then return done out ia ib
    if bcount ≥ minGallop then break
   else
    out:=out.push (<- c9 a ia);ia:=ia + 1;acount:=acount + 1;bcount:=0
    if ia + 1 == a.size then return lastOfA out ia ib
    if acount ≥ minGallop then break
  rule "list.sort.gallop"
  minGallop:=minGallop + 1
  for _ in [0:total] do
   if minGallop > 1 then minGallop:=minGallop - 1
   oN minGallop
   let some k <- iy false (<- c9 b ib) a ia (a.size - ia) 0|return done out ia ib
   acount:=k
   if k > 0 then
    out:=out++a.extract ia (ia + k);ia:=ia + k
    if ia + 1 == a.size then return lastOfA out ia ib
    if ia == a.size then return done out ia ib
   out:=out.push (<- c9 b ib);ib:=ib + 1
   if ib == b.size then return done out ia ib
   let some k <- iy true (<- c9 a ia) b ib (b.size - ib) 0|return done out ia ib
   bcount:=k
   if k > 0 then
    out:=out++b.extract ib (ib + k);ib:=ib + k
    if ib == b.size then return done out ia ib
   out:=out.push (<- c9 a ia);ia:=ia + 1
   if ia + 1 == a.size then return lastOfA out ia ib
   if acount < 7 && bcount < 7 then break
  minGallop:=minGallop + 1
  oN minGallop
 unsupported "internal:list.sort.merge-bound"):=rfl
noncomputable abbrev LoS:=Option (Array aw)×Array aw×Nat×Nat×Nat×Nat×Nat
noncomputable def Nt(a b out:Array aw)(ia ib mg ac bc:Nat):StateT bo Sem (ForInStep LoS):=do
 let x <- c9 a ia
 if (ia + 1 + 1 == a.size)=true then pure (.done (some (out.push x++b.extract ib b.size++a.extract (ia + 1) a.size),out.push x,ia + 1,ib,mg,ac,bc))
 else if (decide (ac < 7) && decide (bc < 7))=true then pure (.done (none,out.push x,ia + 1,ib,mg,ac,bc))
 else pure (.yield (none,out.push x,ia + 1,ib,mg,ac,bc))
noncomputable def DQ(a b out:Array aw)(ia ib mg ac bc:Nat):StateT bo Sem (ForInStep LoS):=do
 let y <- c9 b ib
 if (ib + 1 == b.size)=true then pure (.done (some (out.push y++a.extract ia a.size++b.extract (ib + 1) b.size),out.push y,ia,ib + 1,mg,ac,bc))
 else do
  let x <- c9 a ia
  let __x <- iy true x b (ib + 1) (b.size - (ib + 1)) 0
  match __x with
  |some k =>
   if k > 0 then
    if (ib + 1 + k == b.size)=true then pure (.done (some (out.push y++b.extract (ib + 1) (ib + 1 + k)++a.extract ia a.size++b.extract (ib + 1 + k) b.size),out.push y++b.extract (ib + 1) (ib + 1 + k),ia,ib + 1 + k,mg,ac,k))
    else Nt a b (out.push y++b.extract (ib + 1) (ib + 1 + k)) ia (ib + 1 + k) mg ac k
   else Nt a b (out.push y) ia (ib + 1) mg ac k
  |_=>pure (.done (some (out.push y++a.extract ia a.size++b.extract (ib + 1) b.size),out.push y,ia,ib + 1,mg,ac,bc))
noncomputable def cN(st st':bo):Prop:=ay st'=ay st/\kindOf st'=kindOf st/\b9 st'=b9 st/\fy st'=fy st
theorem cN.refl(st:bo):cN st st:=⟨rfl,rfl,rfl,rfl⟩
theorem cN.trans{x y z:bo}(h:cN x y)(g:cN y z):cN x z:=⟨g.1.trans h.1,g.2.1.trans h.2.1,g.2.2.1.trans h.2.2.1,g.2.2.2.trans h.2.2.2⟩
section
variable{prog:aE}{w:az}{A:aI}{E:aa->af->Prop}{s:af}{a₀:Array aw}{κ:fx}{rk:aw->Int}{a b:Array aw}
theorem oU{g:Nat}{Q:Unit->bo->Prop}{st:bo}(h:∀st',cN st st'->Q () st'):wpS (ax prog w) A E s (oN g) Q st :=
 jn (h _ ⟨rfl,rfl,rfl,rfl⟩)
structure Hi (prog:aE)(w:az)(A:aI)(s:af)(κ:fx)(rk:aw->Int)(a₀ a b:Array aw):Prop where
 h0:Ax prog w A s κ rk a₀
 sa:gW rk a.toList
 sb:gW rk b.toList
 ma:∀x∈a.toList,x∈a₀.toList
 mb:∀x∈b.toList,x∈a₀.toList
 la:0 < a.size
 lb:0 < b.size
 lt0:R rk b 0 < R rk a 0
 last:∀x∈b.toList,rk x<=R rk a (a.size - 1)
theorem oA{xs:Array aw}{i:Nat}{x:aw}(h:xs[i]?=some x):x∈xs.toList:=by obtain⟨hi,rfl⟩:=gi.mp h;simp
theorem eE{xs:Array aw}{i:Nat}(h:i < xs.size):∃x,xs[i]?=some x:=⟨_,getElem?_pos xs i h⟩
theorem Hi.Nu(m:Hi prog w A s κ rk a₀ a b){out:Array aw}{ia ib:Nat}(h:Mg rk a b out ia ib)(e:ia + 1=a.size):Aj rk a b (out++b.extract ib b.size++a.extract ia a.size):=by refine h.Ut m.sa m.sb fun y hy x hx=>?_;obtain⟨x',hx'⟩:=eE (xs:=a) (i:=ia) (by lia);have e1:=m.last y (List.mem_of_mem_drop hy);rw[show a.size - 1=ia by lia,iQ hx']at e1;exact eR e1 (pG m.sa hx' hx)
theorem Hi.Zr(m:Hi prog w A s κ rk a₀ a b){out:Array aw}{ia ib:Nat}(h:Mg rk a b out ia ib)(e:ib=b.size):Aj rk a b (out++a.extract ia a.size++b.extract ib b.size):=by refine h.done m.sa m.sb fun x hx y hy=>?_;subst e;rw[mP (by simp)]at hy;cases hy
noncomputable def LoQ(rk:aw->Int)(a b:Array aw)(κ:fx)(st:bo)(n:Nat):ForInStep LoS->bo->Prop:=fun r st'=>cN st st'/\match r with
 | .done c=>(∃m,c.1=some m/\Aj rk a b m)∨(c.1=none/\Mg rk a b c.2.1 c.2.2.1 c.2.2.2.1/\c.2.2.1 + 1 < a.size/\c.2.2.2.1 < b.size/\n<=c.2.1.size)
 | .yield c=>c.1=none/\Mg rk a b c.2.1 c.2.2.1 c.2.2.2.1/\c.2.2.1 + 1 < a.size/\c.2.2.2.1 < b.size/\n < c.2.1.size
theorem BK(m:Hi prog w A s κ rk a₀ a b){out:Array aw}{ia ib mg ac bc n:Nat}{st0 st:bo}(hS:cN st0 st)(h:Mg rk a b out ia ib)(h1:ia + 1 < a.size)(h2:ib < b.size)(hn:n<=out.size)(hc:∀x y,a[ia]?=some x->y∈b.toList.drop ib->rk x<=rk y) :
  wpS (ax prog w) A E s (Nt a b out ia ib mg ac bc) (LoQ rk a b κ st0 n) st:=by
 unfold Nt;obtain⟨x,hx⟩:=eE (xs:=a) (i:=ia) (by lia);refine bb (bY hx ?_);have h':=h.wD m.sa hx (fun y hy=>hc x y hx hy);have sz:n < (out.push x).size:=by rw[hV];lia
 split
 ·rename_i e;exact br ⟨hS,.inl ⟨_,rfl,m.Nu h' (by simpa using e)⟩⟩
 ·rename_i e;have e':ia + 1 + 1 < a.size:=by
   have:¬ia + 1 + 1=a.size:=by simpa using e
   lia
  split
  ·exact br ⟨hS,.inr ⟨rfl,h',e',h2,iX sz⟩⟩
  ·exact br ⟨hS,rfl,h',e',h2,sz⟩
theorem zp(m:Hi prog w A s κ rk a₀ a b){out:Array aw}{ia ib mg ac bc n:Nat}{st0 st:bo}(hk:kindOf st=κ)(hS:cN st0 st)(h:Mg rk a b out ia ib)(h1:ia + 1 < a.size)(h2:ib < b.size)(hn:n<=out.size)(hc:∀y x,b[ib]?=some y->x∈a.toList.drop ia->rk y<=rk x) :
  wpS (ax prog w) A E s (DQ a b out ia ib mg ac bc) (LoQ rk a b κ st0 n) st:=by
 unfold DQ;obtain⟨y,hy⟩:=eE (xs:=b) (i:=ib) h2;refine bb (bY hy ?_);have h':=h.BJ m.sb hy (fun x hx=>hc y x hy hx);have sz:n < (out.push y).size:=by rw[hV];lia
 split
 ·rename_i e;exact br ⟨hS,.inl ⟨_,rfl,m.Zr h' (by simpa using e)⟩⟩
 ·rename_i e;have e':ib + 1 < b.size:=by
   have:¬ib + 1=b.size:=by simpa using e
   lia
  obtain⟨x,hx⟩:=eE (xs:=a) (i:=ia) (by lia);refine bb (bY hx ?_);refine bb (jM m.h0 hk (m.ma x (oA hx)) m.mb (by lia) (by lia) (Hg m.sb _ _ (by lia)) fun k k1 k2 k3=>?_);have chunk:∀z∈(b.toList.drop (ib + 1)).take k,∀v∈a.toList.drop ia,rk z<=rk v:=fun z hz v hv=>by
   obtain⟨j,hj,ej⟩:=lV hz;have:=k2 j hj;unfold bp at this;rw[iQ ej]at this;have q:rk z < rk x:=by simpa using this
   exact eR (gN q) (pG m.sa hx hv)
  have cj:∀v,v∈b.toList.drop (ib + 1 + k)->rk x<=rk v:=fun v hv=>by obtain⟨j,hj,ej⟩:=yu hv;rw[o8 (ib + 1) k j]at ej;have:=k3 (k + j) (by lia) (by lia);unfold bp at this;rw[iQ ej]at this;simpa using this
  dsimp only;split
  ·rename_i kp;have h'':=h'.DN m.sb (k:=k) (by lia) chunk;have sz':n<=(out.push y++b.extract (ib + 1) (ib + 1 + k)).size:=by rw[nh];lia
   split
   ·rename_i e2;exact br ⟨hS,.inl ⟨_,rfl,m.Zr h'' (by simpa using e2)⟩⟩
   ·rename_i e2;have e2':ib + 1 + k < b.size:=by
     have:¬ib + 1 + k=b.size:=by simpa using e2
     lia
    exact BK m hS h'' h1 e2' sz' fun x' v hx' hv=>by rw[hx]at hx';cases hx';exact cj v hv
  ·rename_i kp;obtain rfl:k=0:=by lia
   exact BK m hS h' h1 e' (iX sz) fun x' v hx' hv=>by rw[hx]at hx';cases hx';exact cj v hv
end
section
variable{prog:aE}{w:az}{A:aI}{E:aa->af->Prop}{s:af}{a₀:Array aw}{κ:fx}{rk:aw->Int}{a b:Array aw}
theorem Mg.nil:Mg rk a b #[] 0 0:=⟨fR _,fR _,rfl,by simp,by simp,fun x hx=>by simp at hx⟩
theorem gA{a b:Nat}(h:¬(a == b)=true):a≠b:=fun e=>h (by simp[e])
theorem kE{a b:Nat}(h:(a == b)=true):a=b:=by simpa using h
theorem bZ{α:Type}{c:Prop}[Decidable c]{t f:StateT bo Sem α}{Q:α->bo->Prop}{st:bo}(ht:c->wpS (ax prog w) A E s t Q st)(hf:¬c->wpS (ax prog w) A E s f Q st):wpS (ax prog w) A E s (if c then t else f) Q st:=by
 by_cases h:c
 ·rw[if_pos h];exact ht h
 ·rw[if_neg h];exact hf h
theorem zq(m:Hi prog w A s κ rk a₀ a b){out:Array aw}{ia ib n:Nat}{st0 st:bo}(hk:kindOf st=κ)(hS:cN st0 st)(h:Mg rk a b out ia ib)(h1:ia + 1 < a.size)(h2:ib < b.size)(hn:n<=out.size)
  {f:Option Nat->StateT bo Sem (ForInStep LoS)}{mg bc:Nat}(hf:∀k,f (some k)=if k > 0 then
    if (ia + k + 1 == a.size)=true then pure (.done (some (out++a.extract ia (ia + k)++b.extract ib b.size++a.extract (ia + k) a.size),out++a.extract ia (ia + k),ia + k,ib,mg,k,bc))
    else if (ia + k == a.size)=true then pure (.done (some (out++a.extract ia (ia + k)++a.extract (ia + k) a.size++b.extract ib b.size),out++a.extract ia (ia + k),ia + k,ib,mg,k,bc))
    else DQ a b (out++a.extract ia (ia + k)) (ia + k) ib mg k bc
   else DQ a b out ia ib mg k bc) :
  wpS (ax prog w) A E s (do let y <- c9 b ib;let r <- iy false y a ia (a.size - ia) 0;f r) (LoQ rk a b κ st0 n) st:=by
 obtain⟨y,hy⟩:=eE (xs:=b) (i:=ib) h2;refine bb (bY hy ?_);refine bb (jM m.h0 hk (m.mb y (oA hy)) m.ma (by lia) (by lia) (Hg m.sa _ _ (by lia)) fun k k1 k2 k3=>?_);rw[hf];have chunk:∀z∈(a.toList.drop ia).take k,∀v∈b.toList.drop ib,rk z<=rk v:=fun z hz v hv=>by
  obtain⟨j,hj,ej⟩:=lV hz;have:=k2 j hj;unfold bp at this;rw[iQ ej]at this;have q:rk z<=rk y:=by simpa using this
  exact eR q (pG m.sb hy hv)
 have cj:∀v,v∈a.toList.drop (ia + k)->rk y<=rk v:=fun v hv=>by
  obtain⟨j,hj,ej⟩:=yu hv;rw[o8 ia k j]at ej;have:=k3 (k + j) (by lia) (by lia);unfold bp at this;rw[iQ ej]at this;have q:rk y < rk v:=by simpa using this
  exact gN q
 split
 ·rename_i kp;have h':=h.qD m.sa (k:=k) (by lia) chunk;have sz':n<=(out++a.extract ia (ia + k)).size:=by rw[nh];lia
  split
  ·rename_i e;exact br ⟨hS,.inl ⟨_,rfl,m.Nu h' (kE e)⟩⟩
  ·rename_i e;have e:=gA e;split
   ·rename_i e2;refine br ⟨hS,.inl ⟨_,rfl,h'.done m.sa m.sb fun x hx=>?_⟩⟩;rw[kE e2,mP (by simp)]at hx;cases hx
   ·rename_i e2;have e2:=gA e2;exact zp m hk hS h' (by lia) h2 sz' fun y' x hy' hx=>by rw[hy]at hy';cases hy';exact cj x hx
 ·rename_i kp;obtain rfl:k=0:=by lia
  exact zp m hk hS h h1 h2 hn fun y' x hy' hx=>by rw[hy]at hy';cases hy';exact cj x hx
theorem Hj(m:Hi prog w A s κ rk a₀ a b){st:bo}(hk:kindOf st=κ){Q:Array aw->bo->Prop}(h:∀mm st',cN st st'->Aj rk a b mm->Q mm st') :
  wpS (ax prog w) A E s (zm a b) Q st:=by
 rw[Hh];dsimp only;refine bb (ls (f7 ⟨rfl,?_⟩));obtain⟨y0,hy0⟩:=eE (xs:=b) (i:=0) m.lb;obtain⟨x0,hx0⟩:=eE (xs:=a) (i:=0) m.la;refine bb (bY hy0 ?_);have l0:=m.lt0;rw[iQ hy0,iQ hx0]at l0;have M0:Mg rk a b #[y0] 0 1:=Mg.nil.BJ m.sb hy0 fun v hv=>eR (gN l0) (pG m.sa hx0 hv);have la:=m.la;have lb:=m.lb;refine bZ (fun e=>br (h _ _ (.refl _) (m.Zr M0 (kE e)))) fun e1=>?_;have e1:=gA e1;refine bZ (fun e=>br (h _ _ (.refl _) (m.Nu M0 (kE e)))) fun e2=>?_;have e2:=gA e2;refine bb (g_ ?_);refine bb (eJ (fv (I:=fun x c st'=>cN st st'/\∃out ia ib mg,c=(none,out,ia,ib,mg)/\Mg rk a b out ia ib/\ia + 1 < a.size/\ib < b.size/\x + 1<=out.size)
  (Q:=fun c st'=>cN st st'/\∃mm cj,c=(some mm,cj)/\Aj rk a b mm) ?step ?dY ⟨.refl _,#[y0],0,1,_,rfl,M0,by lia,by lia,by simp⟩) ?post)
 case post =>
  rintro c st' ⟨hS,mm,cj,rfl,hr⟩;exact br (h mm st' hS hr)
 case dY =>
  rintro c st' ⟨hS,out,ia,ib,mg,rfl,hM,h1,h2,h3⟩;have:=hM.sz;lia
 case step =>
  rintro x c st' _ hx ⟨hS,out,ia,ib,mg,rfl,hM,h1,h2,h3⟩;dsimp only;refine bb (eJ (fv (I:=fun y c st''=>cN st st''/\∃out ia ib ac bc,c=(none,out,ia,ib,ac,bc)/\Mg rk a b out ia ib/\ia + 1 < a.size/\ib < b.size/\x + 1 + y<=out.size)
   (Q:=fun c st''=>cN st st''/\((∃mm cj,c=(some mm,cj)/\Aj rk a b mm)∨∃out ia ib ac bc,c=(none,out,ia,ib,ac,bc)/\Mg rk a b out ia ib/\ia + 1 < a.size/\ib < b.size/\x + 2<=out.size)) ?istep ?ifin ⟨hS,out,ia,ib,0,0,rfl,hM,h1,h2,by lia⟩) ?ipost)
  case ifin =>
   rintro c st'' ⟨hS,out,ia,ib,ac,bc,rfl,hM,h1,h2,h3⟩;have:=hM.sz;lia
  case istep =>
   rintro y c st'' _ hy ⟨hS,out,ia,ib,ac,bc,rfl,hM,h1,h2,h3⟩;dsimp only;obtain⟨p,hp⟩:=eE (xs:=b) (i:=ib) h2;obtain⟨q,hq⟩:=eE (xs:=a) (i:=ia) (by lia);refine bb (bY hp (bb (bY hq (bb (zf m.h0 (hS.2.1.trans hk) (m.mb p (oA hp)) (m.ma q (oA hq)) ?_)))));by_cases c:rk p < rk q
   ·simp only[c,decide_true,if_true];refine bb (bY hp ?_);have hM':=hM.BJ m.sb hp fun v hv=>eR (gN c) (pG m.sa hq hv);split
    ·rename_i e;exact br ⟨hS,.inl ⟨_,_,rfl,m.Zr hM' (kE e)⟩⟩
    ·rename_i e;have e:=gA e;split
     ·exact br ⟨hS,.inr ⟨_,_,_,_,_,rfl,hM',h1,by lia,by rw[hV];lia⟩⟩
     ·exact br ⟨hS,_,_,_,_,_,rfl,hM',h1,by lia,by rw[hV];lia⟩
   ·simp only[c,decide_false,cn,if_false];refine bb (bY hq ?_);have hM':=hM.wD m.sa hq fun v hv=>eR (oS.mp c) (pG m.sb hp hv);split
    ·rename_i e;exact br ⟨hS,.inl ⟨_,_,rfl,m.Nu hM' (kE e)⟩⟩
    ·rename_i e;have e:=gA e;split
     ·exact br ⟨hS,.inr ⟨_,_,_,_,_,rfl,hM',by lia,h2,by rw[hV];lia⟩⟩
     ·exact br ⟨hS,_,_,_,_,_,rfl,hM',by lia,h2,by rw[hV];lia⟩
  case ipost =>
   rintro c st'' ⟨hS,⟨mm,cj,rfl,hr⟩|⟨out,ia,ib,ac,bc,rfl,hM,h1,h2,h3⟩⟩
   ·exact br ⟨hS,mm,_,rfl,hr⟩
   ·dsimp only;refine bb (ls (f7 ⟨rfl,?_⟩));refine bb (eJ (fv (I:=fun y c st3=>cN st st3/\∃out ia ib mg ac bc,c=(none,out,ia,ib,mg,ac,bc)/\Mg rk a b out ia ib/\ia + 1 < a.size/\ib < b.size/\x + 2 + y<=out.size)
     (Q:=fun c st3=>cN st st3/\((∃mm cj,c=(some mm,cj)/\Aj rk a b mm)∨∃out ia ib mg ac bc,c=(none,out,ia,ib,mg,ac,bc)/\Mg rk a b out ia ib/\ia + 1 < a.size/\ib < b.size/\x + 2<=out.size)) ?Uu ?acW ⟨hS,out,ia,ib,_,ac,bc,rfl,hM,h1,h2,by lia⟩) ?Uv)
    case acW =>
     rintro c st3 ⟨hS,out,ia,ib,mg,ac,bc,rfl,hM,h1,h2,h3⟩;have:=hM.sz;lia
    case Uv =>
     rintro c st3 ⟨hS,⟨mm,cj,rfl,hr⟩|⟨out,ia,ib,mg,ac,bc,rfl,hM,h1,h2,h3⟩⟩
     ·exact br ⟨hS,mm,_,rfl,hr⟩
     ·dsimp only;refine bb (oU fun Bq FP=>?_);exact br ⟨hS.trans FP,_,_,_,_,rfl,hM,h1,h2,by lia⟩
    case Uu =>
     rintro y c st3 _ hy ⟨hS,out,ia,ib,mg,ac,bc,rfl,hM,h1,h2,h3⟩;have cD:∀(c:LoS) (st':bo),LoQ rk a b κ st (x + 2 + y) (.done c) st'->cN st st'/\((∃mm cj,c=(some mm,cj)/\Aj rk a b mm)∨∃out ia ib mg ac bc,c=(none,out,ia,ib,mg,ac,bc)/\Mg rk a b out ia ib/\ia + 1 < a.size/\ib < b.size/\x + 2<=out.size):=by
      rintro⟨c1,out,ia,ib,mg,ac,bc⟩ st' ⟨hS,⟨mm,e,hr⟩|⟨e,hM,h1,h2,h3⟩⟩
      ·cases e;exact⟨hS,.inl ⟨mm,_,rfl,hr⟩⟩
      ·cases e;dsimp only at h1 h2 h3;exact⟨hS,.inr ⟨_,_,_,_,_,_,rfl,hM,h1,h2,by lia⟩⟩
     have cY:∀(c:LoS) (st':bo),LoQ rk a b κ st (x + 2 + y) (.yield c) st'->cN st st'/\∃out ia ib mg ac bc,c=(none,out,ia,ib,mg,ac,bc)/\Mg rk a b out ia ib/\ia + 1 < a.size/\ib < b.size/\x + 2 + (y + 1)<=out.size:=by rintro⟨c1,out,ia,ib,mg,ac,bc⟩ st' ⟨hS,e,hM,h1,h2,h3⟩;cases e;dsimp only at h1 h2 h3;exact⟨hS,_,_,_,_,_,_,rfl,hM,h1,h2,by lia⟩
     dsimp only;refine bZ (fun _=>?_) (fun _=>?_)
     ·refine bb (oU fun Bq FP=>?_);exact eJ (zq m ((hS.trans FP).2.1.trans hk) (hS.trans FP) hM h1 h2 h3 (fun k=>rfl)) fun r st' hq=>match r,hq with|.done c,hq=>cD c st' hq|.yield c,hq=>cY c st' hq
     ·refine bb (oU fun Bq FP=>?_);exact eJ (zq m ((hS.trans FP).2.1.trans hk) (hS.trans FP) hM h1 h2 h3 (fun k=>rfl)) fun r st' hq=>match r,hq with|.done c,hq=>cD c st' hq|.yield c,hq=>cY c st' hq
end
noncomputable def zu:Array Keyed->Array Keyed->StateT SortSt Sem (Array Keyed):=sortPriv% PySem.Builtin.mergeHi
theorem Hl(a b:Array aw):zu a b=(do
 rule "list.sort.merge-hi"
 let total:=a.size + b.size
 let done (out:Array aw) (na nb:Nat):=a.extract 0 na++b.extract 0 nb++out.reverse
 let firstOfB (out:Array aw) (na nb:Nat):=b.extract 0 nb++a.extract 0 na++out.reverse
 let mut na:=a.size - 1
 let mut nb:=b.size
 let mut out:Array aw:=#[<- c9 a na]
 if na == 0 then return done out na nb
 if nb == 1 then return firstOfB out na nb
 let mut minGallop:=gallopOf (<- get)
 for _ in [0:total] do
  let mut acount:=0
  let mut bcount:=0
  for _ in [0:total] do
   let some aWins <- lt' (<- c9 b (nb - 1)) (<- c9 a (na - 1))|return done out na nb
   if aWins then
    na:=na - 1;out:=out.push (<- c9 a na);acount:=acount + 1;bcount:=0
    if na == 0 then return done out na nb
    if acount ≥ minGallop then break
   else
    nb:=nb - 1;out:=out.push (<- c9 b nb);bcount:=bcount + 1;acount:=0
    if nb == 1 then return firstOfB out na nb
    if bcount ≥ minGallop then break
  rule "list.sort.gallop"
  minGallop:=minGallop + 1
  for _ in [0:total] do
   if minGallop > 1 then minGallop:=minGallop - 1
   oN minGallop
   let some at_ <- iy false (<- c9 b (nb - 1)) a 0 na (na - 1)|return done out na nb
   let k:=na - at_
   acount:=k
   if k > 0 then
    out:=out++(a.extract at_ na).reverse;na:=at_
    if na == 0 then return done out na nb
   nb:=nb - 1;out:=out.push (<- c9 b nb)
   if nb == 1 then return firstOfB out na nb
   let some at_ <- iy true (<- c9 a (na - 1)) b 0 nb (nb - 1)|return done out na nb
   let k:=nb - at_
   bcount:=k
   if k > 0 then
    out:=out++(b.extract at_ nb).reverse;nb:=at_
    if nb == 1 then return firstOfB out na nb
    if nb == 0 then return done out na nb
   na:=na - 1;out:=out.push (<- c9 a na)
   if na == 0 then return done out na nb
   if acount < 7 && bcount < 7 then break
  minGallop:=minGallop + 1
  oN minGallop
 unsupported "internal:list.sort.merge-bound"):=rfl
structure Mh (rk:aw->Int)(a b out:Array aw)(na nb:Nat):Prop where
 ha:na<=a.size
 hb:nb<=b.size
 sz:out.size + (na + nb)=a.size + b.size
 pm:((a.toList.take na++b.toList.take nb)++out.toList.reverse).Perm (a.toList++b.toList)
 up:gW rk out.toList.reverse
 bd:∀y∈a.toList.take na++b.toList.take nb,∀x∈out.toList,rk y<=rk x
section
variable{rk:aw->Int}{a b out:Array aw}{na nb k:Nat}{x y:aw}
theorem JQ(l:List aw){i n:Nat}(h:i<=n):l.take n=l.take i++(l.take n).drop i:=by
 conv=>lhs;rw[<- q9 i (l.take n)]
 rw[List.take_take,Nat.min_eq_left h]
theorem Mh.qD(h:Mh rk a b out na nb)(sa:gW rk a.toList)(hk:k<=na)(hc:∀x∈(a.toList.take na).drop k,∀y∈b.toList.take nb,rk y<=rk x):Mh rk a b (out++(a.extract k na).reverse) k nb:=by
 have ha:=h.ha;have e:(a.extract k na).toList=(a.toList.take na).drop k:=by rw[pF,List.drop_take]
 have sp:=JQ a.toList hk;have sd:gW rk (a.toList.take na):=o6 (qc _ _) sa;rw[sp]at sd;obtain⟨s1,s2,s3⟩:=jv.mp sd;have er:(out++(a.extract k na).reverse).toList.reverse=(a.toList.take na).drop k++out.toList.reverse:=by rw[kc,List.reverse_append,Array.toList_reverse,List.reverse_reverse,e]
 refine⟨by lia,h.hb,?_,?_,?_,?_⟩
 ·have:=h.sz;rw[nh,Array.size_reverse,q_];lia
 ·rw[er];refine nc.trans ?_ h.pm
  conv=>rhs;rw[sp]
  simp only[j9];refine rf _ ?_;rw[<- j9,<- j9];exact vt _ lI
 ·rw[er];refine jv.mpr ⟨s2,h.up,fun x hx y hy=>h.bd x ?_ y (o9.mp hy)⟩;rw[sp];simp[hx]
 ·intro y hy x hx;have hx':x∈(a.toList.take na).drop k++out.toList.reverse:=by rw[<- er];exact o9.mpr hx
  rcases dQ.mp hx' with hx|hx
  ·rcases dQ.mp hy with hy|hy
   ·exact s3 y hy x hx
   ·exact hc x hx y hy
  ·refine h.bd y ?_ x (o9.mp hx);rw[sp];rcases dQ.mp hy with hy|hy <;> simp[hy]
theorem Mh.swap(h:Mh rk a b out na nb):Mh rk b a out nb na:=by
 refine⟨h.hb,h.ha,by have:=h.sz;lia,?_,h.up,fun y hy x hx=>h.bd y ?_ x hx⟩
 ·exact(vt _ lI).trans (h.pm.trans lI)
 ·rcases dQ.mp hy with hy|hy <;> simp[hy]
theorem Mh.DN(h:Mh rk a b out na nb)(sb:gW rk b.toList)(hk:k<=nb)(hc:∀y∈(b.toList.take nb).drop k,∀x∈a.toList.take na,rk x<=rk y):Mh rk a b (out++(b.extract k nb).reverse) na k :=
 (h.swap.qD sb hk hc).swap
theorem Uw{a:Array aw}{n:Nat}{x:aw}(hn:0 < n)(h:a[n - 1]?=some x):out.push x=out++(a.extract (n - 1) n).reverse:=by
 have e:=Nr (out:=#[]) h;have e2:a.extract (n - 1) n=#[x]:=by rw[show n - 1 + 1=n by lia]at e;simpa using e.symm
 rw[e2];rfl
theorem ahL{a:Array aw}{n:Nat}{x z:aw}(hn:0 < n)(h:a[n - 1]?=some x)(hz:z∈(a.toList.take n).drop (n - 1)):z=x:=by
 obtain⟨j,hj⟩:=ny.mp hz;rw[o7]at hj;have hl:n - 1 + j < n:=by
  rcases nz (n - 1 + j) n with q|q
  ·exact q
  ·rw[rn q]at hj;cases hj
 obtain rfl:j=0:=by lia
 rw[mo hl]at hj;have:a[n - 1]?=some z:=by simpa using hj
 rw[this]at h;cases h;rfl
theorem uw{a:Array aw}{n:Nat}{x z:aw}(hn:0 < n)(sa:gW rk a.toList)(h:a[n - 1]?=some x)(hz:z∈a.toList.take n):rk z<=rk x:=by
 obtain⟨j,hj⟩:=ny.mp hz;have hl:j < n:=by
  rcases nz j n with q|q
  ·exact q
  ·rw[rn q]at hj;cases hj
 rw[mo hl]at hj;have hj':a[j]?=some z:=by simpa using hj
 obtain⟨q1,_⟩:=gi.mp hj';obtain⟨q2,_⟩:=gi.mp h;have:=Hg sa 0 a.size (by lia) j (n - 1) (by lia) (by lia);rw[hZ,hZ,iQ hj',iQ h]at this;exact this
theorem Mh.wD(h:Mh rk a b out na nb)(sa:gW rk a.toList)(hn:0 < na)(hx:a[na - 1]?=some x)(hc:∀y∈b.toList.take nb,rk y<=rk x):Mh rk a b (out.push x) (na - 1) nb:=by
 rw[Uw hn hx];exact h.qD sa (by lia) fun z hz y hy=>by rw[ahL hn hx hz];exact hc y hy
theorem Mh.BJ(h:Mh rk a b out na nb)(sb:gW rk b.toList)(hn:0 < nb)(hx:b[nb - 1]?=some x)(hc:∀y∈a.toList.take na,rk y<=rk x):Mh rk a b (out.push x) na (nb - 1):=(h.swap.wD sb hn hx hc).swap
theorem Mh.done(h:Mh rk a b out na nb)(sa:gW rk a.toList)(sb:gW rk b.toList)(hc:∀x∈a.toList.take na,∀y∈b.toList.take nb,rk x<=rk y):Aj rk a b (a.extract 0 na++b.extract 0 nb++out.reverse):=by
 have e:(a.extract 0 na++b.extract 0 nb++out.reverse).toList=(a.toList.take na++b.toList.take nb)++out.toList.reverse:=by rw[kc,kc,pF,pF,Array.toList_reverse];simp
 refine⟨by rw[e];exact h.pm,?_⟩;rw[e];refine jv.mpr ⟨jv.mpr ⟨o6 (qc _ _) sa,o6 (qc _ _) sb,hc⟩,h.up,fun y hy x hx=>h.bd y hy x (o9.mp hx)⟩
theorem Mh.Ut(h:Mh rk a b out na nb)(sa:gW rk a.toList)(sb:gW rk b.toList)(hc:∀y∈b.toList.take nb,∀x∈a.toList.take na,rk y<=rk x):Aj rk a b (b.extract 0 nb++a.extract 0 na++out.reverse):=by obtain⟨h1,h2⟩:=h.swap.done sb sa hc;exact⟨h1.trans lI,h2⟩
theorem DR{a:Array aw}{n k:Nat}{z:aw}(hz:z∈(a.toList.take n).drop k):∃j,k<=j/\j < n/\a[j]?=some z:=by
 obtain⟨j,hj⟩:=ny.mp hz;rw[o7]at hj;have hl:k + j < n:=by
  rcases nz (k + j) n with q|q
  ·exact q
  ·rw[rn q]at hj;cases hj
 rw[mo hl]at hj;exact⟨k + j,by lia,hl,by simpa using hj⟩
theorem Nv{a:Array aw}{n:Nat}{z:aw}(hz:z∈a.toList.take n):∃j,j < n/\a[j]?=some z:=by obtain⟨j,_,h2,h3⟩:=DR (k:=0) (by simpa using hz);exact⟨j,h2,h3⟩
theorem Mh.nil:Mh rk a b #[] a.size b.size:=⟨bz _,bz _,by simp,by rw[List.take_of_length_le (by simp),List.take_of_length_le (by simp)];simp,by simp,fun y _ x hx=>by simp at hx⟩
end
noncomputable abbrev HiS:=Option (Array aw)×Nat×Nat×Array aw×Nat×Nat×Nat
noncomputable def Nx(a b out:Array aw)(na nb mg ac bc:Nat):StateT bo Sem (ForInStep HiS):=do
 let x <- c9 a (na - 1)
 if (na - 1 == 0)=true then pure (.done (some (a.extract 0 (na - 1)++b.extract 0 nb++(out.push x).reverse),na - 1,nb,out.push x,mg,ac,bc))
 else if (decide (ac < 7) && decide (bc < 7))=true then pure (.done (none,na - 1,nb,out.push x,mg,ac,bc))
 else pure (.yield (none,na - 1,nb,out.push x,mg,ac,bc))
noncomputable def DW(a b out:Array aw)(na nb mg ac bc:Nat):StateT bo Sem (ForInStep HiS):=do
 let y <- c9 b (nb - 1)
 if (nb - 1 == 1)=true then pure (.done (some (b.extract 0 (nb - 1)++a.extract 0 na++(out.push y).reverse),na,nb - 1,out.push y,mg,ac,bc))
 else do
  let x <- c9 a (na - 1)
  let __x <- iy true x b 0 (nb - 1) (nb - 1 - 1)
  match __x with
  |some k =>
   if nb - 1 - k > 0 then
    if (k == 1)=true then pure (.done (some (b.extract 0 k++a.extract 0 na++(out.push y++(b.extract k (nb - 1)).reverse).reverse),na,k,out.push y++(b.extract k (nb - 1)).reverse,mg,ac,nb - 1 - k))
    else if (k == 0)=true then pure (.done (some (a.extract 0 na++b.extract 0 k++(out.push y++(b.extract k (nb - 1)).reverse).reverse),na,k,out.push y++(b.extract k (nb - 1)).reverse,mg,ac,nb - 1 - k))
    else Nx a b (out.push y++(b.extract k (nb - 1)).reverse) na k mg ac (nb - 1 - k)
   else Nx a b (out.push y) na (nb - 1) mg ac (nb - 1 - k)
  |_=>pure (.done (some (a.extract 0 na++b.extract 0 (nb - 1)++(out.push y).reverse),na,nb - 1,out.push y,mg,ac,bc))
section
variable{prog:aE}{w:az}{A:aI}{E:aa->af->Prop}{s:af}{a₀:Array aw}{κ:fx}{rk:aw->Int}{a b:Array aw}
theorem Hi.Zt(m:Hi prog w A s κ rk a₀ a b){out:Array aw}{na nb:Nat}(h:Mh rk a b out na nb)(e:nb=1):Aj rk a b (b.extract 0 nb++a.extract 0 na++out.reverse):=by refine h.Ut m.sa m.sb fun y hy x hx=>?_;subst e;obtain⟨x',hx'⟩:=eE (xs:=a) (i:=0) m.la;obtain⟨y',hy'⟩:=eE (xs:=b) (i:=0) m.lb;have e1:=m.lt0;rw[iQ hx',iQ hy']at e1;have e2:=uw (n:=1) (by lia) m.sb hy' hy;have e3:=pG (i:=0) m.sa hx' (by simpa using rh hx);lia
theorem Hi.noA(m:Hi prog w A s κ rk a₀ a b){out:Array aw}{na nb:Nat}(h:Mh rk a b out na nb)(e:na=0):Aj rk a b (a.extract 0 na++b.extract 0 nb++out.reverse):=by refine h.done m.sa m.sb fun x hx=>?_;subst e;simp at hx
noncomputable def HiQ(rk:aw->Int)(a b:Array aw)(κ:fx)(st:bo)(n:Nat):ForInStep HiS->bo->Prop:=fun r st'=>cN st st'/\match r with
 | .done c=>(∃m,c.1=some m/\Aj rk a b m)∨(c.1=none/\Mh rk a b c.2.2.2.1 c.2.1 c.2.2.1/\0 < c.2.1/\1 < c.2.2.1/\n<=c.2.2.2.1.size)
 | .yield c=>c.1=none/\Mh rk a b c.2.2.2.1 c.2.1 c.2.2.1/\0 < c.2.1/\1 < c.2.2.1/\n < c.2.2.2.1.size
theorem BL(m:Hi prog w A s κ rk a₀ a b){out:Array aw}{na nb mg ac bc n:Nat}{st0 st:bo}(hS:cN st0 st)(h:Mh rk a b out na nb)(h1:0 < na)(h2:1 < nb)(hn:n<=out.size)(hc:∀x y,a[na - 1]?=some x->y∈b.toList.take nb->rk y<=rk x) :
  wpS (ax prog w) A E s (Nx a b out na nb mg ac bc) (HiQ rk a b κ st0 n) st:=by
 unfold Nx;have ha:=h.ha;obtain⟨x,hx⟩:=eE (xs:=a) (i:=na - 1) (by lia);refine bb (bY hx ?_);have h':=h.wD m.sa h1 hx (fun y hy=>hc x y hx hy);have sz:n < (out.push x).size:=by rw[hV];lia
 refine bZ (fun e=>br ⟨hS,.inl ⟨_,rfl,m.noA h' (kE e)⟩⟩) fun e=>?_;have e:=gA e;exact bZ (fun _=>br ⟨hS,.inr ⟨rfl,h',by show 0 < na - 1;lia,h2,iX sz⟩⟩) fun _=>br ⟨hS,rfl,h',by show 0 < na - 1;lia,h2,sz⟩
theorem zx(m:Hi prog w A s κ rk a₀ a b){out:Array aw}{na nb mg ac bc n:Nat}{st0 st:bo}(hk:kindOf st=κ)(hS:cN st0 st)(h:Mh rk a b out na nb)(h1:0 < na)(h2:1 < nb)(hn:n<=out.size)(hc:∀y x,b[nb - 1]?=some y->x∈a.toList.take na->rk x<=rk y) :
  wpS (ax prog w) A E s (DW a b out na nb mg ac bc) (HiQ rk a b κ st0 n) st:=by
 unfold DW;have ha:=h.ha;have hb:=h.hb;obtain⟨y,hy⟩:=eE (xs:=b) (i:=nb - 1) (by lia);refine bb (bY hy ?_);have h':=h.BJ m.sb (by lia) hy (fun x hx=>hc y x hy hx);have sz:n < (out.push y).size:=by rw[hV];lia
 refine bZ (fun e=>br ⟨hS,.inl ⟨_,rfl,m.Zt h' (kE e)⟩⟩) fun e=>?_;have e:=gA e;obtain⟨x,hx⟩:=eE (xs:=a) (i:=na - 1) (by lia);refine bb (bY hx ?_);refine bb (jM m.h0 hk (m.ma x (oA hx)) m.mb (by lia) (by lia) (Hg m.sb _ _ (by lia)) fun k k1 k2 k3=>?_);have chunk:∀z∈(b.toList.take (nb - 1)).drop k,∀v∈a.toList.take na,rk v<=rk z:=fun z hz v hv=>by
  obtain⟨j,j1,j2,ej⟩:=DR hz;have:=k3 j j1 j2;unfold bp at this;rw[hZ,iQ ej]at this;have q:rk x<=rk z:=by simpa using this
  exact eR (uw h1 m.sa hx hv) q
 have cj:∀v,v∈b.toList.take k->rk v<=rk x:=fun v hv=>by
  obtain⟨j,hj,ej⟩:=Nv hv;have:=k2 j hj;unfold bp at this;rw[hZ,iQ ej]at this;have q:rk v < rk x:=by simpa using this
  exact gN q
 dsimp only;refine bZ (fun kp=>?_) fun kp=>?_
 ·have h'':=h'.DN m.sb (k:=k) (by lia) chunk;have sz':n<=(out.push y++(b.extract k (nb - 1)).reverse).size:=by rw[nh];lia
  refine bZ (fun e2=>br ⟨hS,.inl ⟨_,rfl,m.Zt h'' (kE e2)⟩⟩) fun e2=>?_;have e2:=gA e2;refine bZ (fun e3=>br ⟨hS,.inl ⟨_,rfl,h''.done m.sa m.sb fun x _ y hy=>?_⟩⟩) fun e3=>?_
  ·rw[kE e3]at hy;simp at hy
  ·have e3:=gA e3;exact BL m hS h'' h1 (by lia) sz' fun x' v hx' hv=>by rw[hx]at hx';cases hx';exact cj v hv
 ·obtain rfl:k=nb - 1:=by lia
  exact BL m hS h' h1 (by lia) (iX sz) fun x' v hx' hv=>by rw[hx]at hx';cases hx';exact cj v hv
theorem zy(m:Hi prog w A s κ rk a₀ a b){out:Array aw}{na nb n:Nat}{st0 st:bo}(hk:kindOf st=κ)(hS:cN st0 st)(h:Mh rk a b out na nb)(h1:0 < na)(h2:1 < nb)(hn:n<=out.size)
  {f:Option Nat->StateT bo Sem (ForInStep HiS)}{mg bc:Nat}(hf:∀k,f (some k)=if na - k > 0 then
    if (k == 0)=true then pure (.done (some (a.extract 0 k++b.extract 0 nb++(out++(a.extract k na).reverse).reverse),k,nb,out++(a.extract k na).reverse,mg,na - k,bc))
    else DW a b (out++(a.extract k na).reverse) k nb mg (na - k) bc
   else DW a b out na nb mg (na - k) bc) :
  wpS (ax prog w) A E s (do let y <- c9 b (nb - 1);let r <- iy false y a 0 na (na - 1);f r) (HiQ rk a b κ st0 n) st:=by
 have ha:=h.ha;have hb:=h.hb;obtain⟨y,hy⟩:=eE (xs:=b) (i:=nb - 1) (by lia);refine bb (bY hy ?_);refine bb (jM m.h0 hk (m.mb y (oA hy)) m.ma (by lia) (by lia) (Hg m.sa _ _ (by lia)) fun k k1 k2 k3=>?_);rw[hf];have chunk:∀z∈(a.toList.take na).drop k,∀v∈b.toList.take nb,rk v<=rk z:=fun z hz v hv=>by
  obtain⟨j,j1,j2,ej⟩:=DR hz;have:=k3 j j1 j2;unfold bp at this;rw[hZ,iQ ej]at this;have q:rk y < rk z:=by simpa using this
  exact eR (uw (by lia) m.sb hy hv) (gN q)
 have cj:∀v,v∈a.toList.take k->rk v<=rk y:=fun v hv=>by obtain⟨j,hj,ej⟩:=Nv hv;have:=k2 j hj;unfold bp at this;rw[hZ,iQ ej]at this;simpa using this
 refine bZ (fun kp=>?_) fun kp=>?_
 ·have h':=h.qD m.sa (k:=k) (by lia) chunk;have sz':n<=(out++(a.extract k na).reverse).size:=by rw[nh];lia
  refine bZ (fun e=>br ⟨hS,.inl ⟨_,rfl,m.noA h' (kE e)⟩⟩) fun e=>?_;have e:=gA e;exact zx m hk hS h' (by lia) h2 sz' fun y' x hy' hx=>by rw[hy]at hy';cases hy';exact cj x hx
 ·obtain rfl:k=na:=by lia
  exact zx m hk hS h h1 h2 hn fun y' x hy' hx=>by rw[hy]at hy';cases hy';exact cj x hx
theorem Ho(m:Hi prog w A s κ rk a₀ a b){st:bo}(hk:kindOf st=κ){Q:Array aw->bo->Prop}(h:∀mm st',cN st st'->Aj rk a b mm->Q mm st') :
  wpS (ax prog w) A E s (zu a b) Q st:=by
 rw[Hl];dsimp only;have la:=m.la;have lb:=m.lb;refine bb (ls (f7 ⟨rfl,?_⟩));obtain⟨x0,hx0⟩:=eE (xs:=a) (i:=a.size - 1) (by lia);refine bb (bY hx0 ?_);have M0:Mh rk a b #[x0] (a.size - 1) b.size:=Mh.nil.wD m.sa la hx0 fun v hv=>by have:=m.last v (rh hv);rwa [iQ hx0]at this
 refine bZ (fun e=>br (h _ _ (.refl _) (m.noA M0 (kE e)))) fun e1=>?_;have e1:=gA e1;refine bZ (fun e=>br (h _ _ (.refl _) (m.Zt M0 (kE e)))) fun e2=>?_;have e2:=gA e2;refine bb (g_ ?_);refine bb (eJ (fv (I:=fun x c st'=>cN st st'/\∃na nb out mg,c=(none,na,nb,out,mg)/\Mh rk a b out na nb/\0 < na/\1 < nb/\x + 1<=out.size)
  (Q:=fun c st'=>cN st st'/\∃mm cj,c=(some mm,cj)/\Aj rk a b mm) ?step ?dY ⟨.refl _,_,_,#[x0],_,rfl,M0,by lia,by lia,by simp⟩) ?post)
 case post =>
  rintro c st' ⟨hS,mm,cj,rfl,hr⟩;exact br (h mm st' hS hr)
 case dY =>
  rintro c st' ⟨hS,na,nb,out,mg,rfl,hM,h1,h2,h3⟩;have:=hM.sz;lia
 case step =>
  rintro x c st' _ hx ⟨hS,na,nb,out,mg,rfl,hM,h1,h2,h3⟩;dsimp only;refine bb (eJ (fv (I:=fun y c st''=>cN st st''/\∃na nb out ac bc,c=(none,na,nb,out,ac,bc)/\Mh rk a b out na nb/\0 < na/\1 < nb/\x + 1 + y<=out.size)
   (Q:=fun c st''=>cN st st''/\((∃mm cj,c=(some mm,cj)/\Aj rk a b mm)∨∃na nb out ac bc,c=(none,na,nb,out,ac,bc)/\Mh rk a b out na nb/\0 < na/\1 < nb/\x + 2<=out.size)) ?istep ?ifin ⟨hS,na,nb,out,0,0,rfl,hM,h1,h2,by lia⟩) ?ipost)
  case ifin =>
   rintro c st'' ⟨hS,na,nb,out,ac,bc,rfl,hM,h1,h2,h3⟩;have:=hM.sz;lia
  case istep =>
   rintro y c st'' _ hy ⟨hS,na,nb,out,ac,bc,rfl,hM,h1,h2,h3⟩;dsimp only;have ha:=hM.ha;have hb:=hM.hb;obtain⟨p,hp⟩:=eE (xs:=b) (i:=nb - 1) (by lia);obtain⟨q,hq⟩:=eE (xs:=a) (i:=na - 1) (by lia);refine bb (bY hp (bb (bY hq (bb (zf m.h0 (hS.2.1.trans hk) (m.mb p (oA hp)) (m.ma q (oA hq)) ?_)))));by_cases c:rk p < rk q
   ·simp only[c,decide_true,if_true];refine bb (bY hq ?_);have hM':=hM.wD m.sa h1 hq fun v hv=>eR (uw (by lia) m.sb hp hv) (gN c);refine bZ (fun e=>br ⟨hS,.inl ⟨_,_,rfl,m.noA hM' (kE e)⟩⟩) fun e=>?_;have e:=gA e;exact bZ (fun _=>br ⟨hS,.inr ⟨_,_,_,_,_,rfl,hM',by lia,h2,by rw[hV];lia⟩⟩) fun _=>br ⟨hS,_,_,_,_,_,rfl,hM',by lia,h2,by rw[hV];lia⟩
   ·simp only[c,decide_false,cn,if_false];refine bb (bY hp ?_);have hM':=hM.BJ m.sb (by lia) hp fun v hv=>eR (uw h1 m.sa hq hv) (oS.mp c);refine bZ (fun e=>br ⟨hS,.inl ⟨_,_,rfl,m.Zt hM' (kE e)⟩⟩) fun e=>?_;have e:=gA e;exact bZ (fun _=>br ⟨hS,.inr ⟨_,_,_,_,_,rfl,hM',h1,by lia,by rw[hV];lia⟩⟩) fun _=>br ⟨hS,_,_,_,_,_,rfl,hM',h1,by lia,by rw[hV];lia⟩
  case ipost =>
   rintro c st'' ⟨hS,⟨mm,cj,rfl,hr⟩|⟨na,nb,out,ac,bc,rfl,hM,h1,h2,h3⟩⟩
   ·exact br ⟨hS,mm,_,rfl,hr⟩
   ·dsimp only;refine bb (ls (f7 ⟨rfl,?_⟩));refine bb (eJ (fv (I:=fun y c st3=>cN st st3/\∃na nb out mg ac bc,c=(none,na,nb,out,mg,ac,bc)/\Mh rk a b out na nb/\0 < na/\1 < nb/\x + 2 + y<=out.size)
     (Q:=fun c st3=>cN st st3/\((∃mm cj,c=(some mm,cj)/\Aj rk a b mm)∨∃na nb out mg ac bc,c=(none,na,nb,out,mg,ac,bc)/\Mh rk a b out na nb/\0 < na/\1 < nb/\x + 2<=out.size)) ?Uu ?acW ⟨hS,na,nb,out,_,ac,bc,rfl,hM,h1,h2,by lia⟩) ?Uv)
    case acW =>
     rintro c st3 ⟨hS,na,nb,out,mg,ac,bc,rfl,hM,h1,h2,h3⟩;have:=hM.sz;lia
    case Uv =>
     rintro c st3 ⟨hS,⟨mm,cj,rfl,hr⟩|⟨na,nb,out,mg,ac,bc,rfl,hM,h1,h2,h3⟩⟩
     ·exact br ⟨hS,mm,_,rfl,hr⟩
     ·dsimp only;refine bb (oU fun Bq FP=>?_);exact br ⟨hS.trans FP,_,_,_,_,rfl,hM,h1,h2,by lia⟩
    case Uu =>
     rintro y c st3 _ hy ⟨hS,na,nb,out,mg,ac,bc,rfl,hM,h1,h2,h3⟩;have cD:∀(c:HiS) (st':bo),HiQ rk a b κ st (x + 2 + y) (.done c) st'->cN st st'/\((∃mm cj,c=(some mm,cj)/\Aj rk a b mm)∨∃na nb out mg ac bc,c=(none,na,nb,out,mg,ac,bc)/\Mh rk a b out na nb/\0 < na/\1 < nb/\x + 2<=out.size):=by
      rintro⟨c1,na,nb,out,mg,ac,bc⟩ st' ⟨hS,⟨mm,e,hr⟩|⟨e,hM,h1,h2,h3⟩⟩
      ·cases e;exact⟨hS,.inl ⟨mm,_,rfl,hr⟩⟩
      ·cases e;dsimp only at h1 h2 h3;exact⟨hS,.inr ⟨_,_,_,_,_,_,rfl,hM,h1,h2,by lia⟩⟩
     have cY:∀(c:HiS) (st':bo),HiQ rk a b κ st (x + 2 + y) (.yield c) st'->cN st st'/\∃na nb out mg ac bc,c=(none,na,nb,out,mg,ac,bc)/\Mh rk a b out na nb/\0 < na/\1 < nb/\x + 2 + (y + 1)<=out.size:=by rintro⟨c1,na,nb,out,mg,ac,bc⟩ st' ⟨hS,e,hM,h1,h2,h3⟩;cases e;dsimp only at h1 h2 h3;exact⟨hS,_,_,_,_,_,_,rfl,hM,h1,h2,by lia⟩
     dsimp only;refine bZ (fun _=>?_) (fun _=>?_)
     ·refine bb (oU fun Bq FP=>?_);exact eJ (zy m ((hS.trans FP).2.1.trans hk) (hS.trans FP) hM h1 h2 h3 (fun k=>rfl)) fun r st' hq=>match r,hq with|.done c,hq=>cD c st' hq|.yield c,hq=>cY c st' hq
     ·refine bb (oU fun Bq FP=>?_);exact eJ (zy m ((hS.trans FP).2.1.trans hk) (hS.trans FP) hM h1 h2 h3 (fun k=>rfl)) fun r st' hq=>match r,hq with|.done c,hq=>cD c st' hq|.yield c,hq=>cY c st' hq
end
theorem Hq(i:Nat):mergeAt' i=(do
 let s <- get
 let (some (sa,na,power),some (sb,nb,_)):=((b9 s)[i]?,(b9 s)[i + 1]?)|unsupported "internal:list.sort.pending"
 set (nB s (((b9 s).setIfInBounds i (sa,na + nb,power)).eraseIdxIfInBounds (i + 1)))
 let some k <- iy false (<- c9 (ay s) sb) (ay s) sa na 0|return false
 let (sa,na):=(sa + k,na - k)
 if na == 0 then return true
 let some nb <- iy true (<- c9 (ay s) (sa + na - 1)) (ay s) sb nb (nb - 1)|return false
 if nb == 0 then return true
 let x:=(ay s).extract sa sb
 let y:=(ay s).extract sb (sb + nb)
 let merged <- if na<=nb then zm x y else zu x y
 modify fun s=>setArr s (merged.toList.zipIdx.foldl (fun a (p,j)=>a.setIfInBounds (sa + j) p) (ay s))
 return (fy (<- get)).isNone):=rfl
section
variable{prog:aE}{w:az}{A:aI}{E:aa->af->Prop}{s:af}{a₀:Array aw}{κ:fx}{rk:aw->Int}
theorem Hr{base:Nat}:∀(M:List aw) (n:Nat) (Pre Z T:List aw) (arr:Array aw),arr.toList=Pre++(Z++T)->base + n=Pre.length->M.length=Z.length ->
  ((M.zipIdx n).foldl (fun a (p:aw×Nat)=>a.setIfInBounds (base + p.2) p.1) arr).toList=Pre++(M++T)
 | [],n,Pre,Z,T,arr,h,_,hl=>by obtain rfl:Z=[]:=rS.mp hl.symm;simpa using h
 |m::M,n,Pre,Z,T,arr,h,hb,hl=>by
  cases Z with
  |nil=>cases hl
  |cons z Z =>
   have e:(arr.setIfInBounds (base + n) m).toList=(Pre++[m])++(Z++T):=by rw[Array.toList_setIfInBounds,h,hb];simp[List.set_append]
   have:=Hr (base:=base) M (n + 1) (Pre++[m]) Z T _ e (by simp;lia) (by simpa using hl);rw[vw,qo,this];simp
theorem DX{xs:Array aw}{P L S:List aw}(h:xs.toList=P++(L++S)){i:Nat}(hi:i < L.length):R rk xs (P.length + i)=rk L[i]:=by refine iQ ?_;rw[<- ka,h,i6 (by lia),i7 (by lia)];rw[show P.length + i - P.length=i by lia,du hi]
theorem JR{xs:Array aw}{P L S:List aw}(h:xs.toList=P++(L++S)):Up rk xs P.length L.length↔gW rk L:=by
 constructor
 ·intro u;refine ng.mpr ?_;intro i j hi hj hij;have:=u i j (by lia) hj;rwa [DX h hi,DX h hj]at this
 ·intro u i j hij hj;rw[DX h (by lia),DX h hj];by_cases e:i=j
  ·subst e;exact hG _
  ·exact ng.mp u i j (by lia) hj (by lia)
theorem Ht{st:bo}{i sa na nb pw pw2:Nat}{Q:Bool->bo->Prop}(h0:Ax prog w A s κ rk a₀)(hp:(ay st).Perm a₀)(hk:kindOf st=κ)(hf:fy st=none)
  (hi:(b9 st)[i]?=some (sa,na,pw)) (hj:(b9 st)[i + 1]?=some (sa + na,nb,pw2)) (na1:1<=na) (nb1:1<=nb) (hz:sa + na + nb<=a₀.size) (ua:Up rk (ay st) sa na) (ub:Up rk (ay st) (sa + na) nb)
  (h:∀st',(ay st').Perm a₀->kindOf st'=κ->fy st'=none->b9 st'=((b9 st).setIfInBounds i (sa,na + nb,pw)).eraseIdxIfInBounds (i + 1)->(∀q,q < sa∨sa + na + nb<=q->(ay st')[q]?=(ay st)[q]?)->Up rk (ay st') sa (na + nb)->Q true st') :
  wpS (ax prog w) A E s (mergeAt' i) Q st:=by
 rw[Hq];refine bb (g_ ?_);dsimp only;rw[hi,hj];dsimp only;have ahM:∀(st1:bo) (Q':PUnit->bo->Prop),Q' ⟨⟩ st1->wpS (ax prog w) A E s (set st1:StateT bo Sem PUnit) Q' st:=fun st1 Q' hq=>by unfold wpS;rw[StateT.run_set];exact a_ ⟨rfl,hq⟩
 refine bb (ahM _ _ ?_);have sz:(ay st).size=a₀.size:=hp.size_eq;have mem:∀x∈(ay st).toList,x∈a₀.toList:=fun x hx=>(q8.mp hp).mem_iff.mp hx;generalize Zu:nB st (((b9 st).setIfInBounds i (sa,na + nb,pw)).eraseIdxIfInBounds (i + 1))=st1;have k1:kindOf st1=κ:=by rw[<- Zu];exact hk
 have f1:fy st1=none:=by rw[<- Zu];exact hf
 have a1:ay st1=ay st:=by rw[<- Zu]
 have p1:b9 st1=((b9 st).setIfInBounds i (sa,na + nb,pw)).eraseIdxIfInBounds (i + 1):=by rw[<- Zu]
 obtain⟨y,hy⟩:=eE (xs:=ay st) (i:=sa + na) (by lia);obtain⟨z,hz'⟩:=eE (xs:=ay st) (i:=sa + na - 1) (by lia);generalize ay st=xs at *;refine bb (bY hy ?_);refine bb (jM h0 k1 (mem y (oA hy)) mem (by lia) (by lia) ua fun k kn kl kr=>?_);have kl':∀q,q < k->R rk xs (sa + q)<=rk y:=fun q hq=>by have:=kl q hq;unfold bp at this;simpa using this
 have kr':∀q,k<=q->q < na->rk y < R rk xs (sa + q):=fun q h1 h2=>by have:=kr q h1 h2;unfold bp at this;simpa using this
 have ub0:∀q,q < nb->rk y<=R rk xs (sa + na + q):=fun q hq=>by have:=ub 0 q (by lia) hq;rwa [m_,iQ hy]at this
 have whole:(∀q,q < na->∀q',q' < nb->R rk xs (sa + q)<=R rk xs (sa + na + q'))->Up rk xs sa (na + nb):=fun hq i j hij hj=>by
  by_cases c:j < na
  ·exact ua i j hij c
  ·by_cases d:i < na
   ·have:=hq i d (j - na) (by lia);rwa [show sa + na + (j - na)=sa + j by lia]at this
   ·have:=ub (i - na) (j - na) (by lia) (by lia);rwa [show sa + na + (j - na)=sa + j by lia,show sa + na + (i - na)=sa + i by lia]at this
 dsimp only;refine bZ (fun e=>br ?_) fun e=>?_
 ·have e:=kE e;refine h st1 (by rw[a1];exact hp) k1 f1 p1 (fun _ _=>by rw[a1]) ?_;rw[a1];exact whole fun q hq q' hq'=>eR (kl' q (by lia)) (ub0 q' hq')
 have e:=gA e;rw[show sa + k + (na - k) - 1=sa + na - 1 by lia];refine bb (bY hz' ?_);refine bb (jM h0 k1 (mem z (oA hz')) mem (by lia) (by lia) ub fun n nn nl nr=>?_);have nl':∀q,q < n->R rk xs (sa + na + q) < rk z:=fun q hq=>by have:=nl q hq;unfold bp at this;simpa using this
 have nr':∀q,n<=q->q < nb->rk z<=R rk xs (sa + na + q):=fun q h1 h2=>by have:=nr q h1 h2;unfold bp at this;simpa using this
 have uaz:∀q,q < na->R rk xs (sa + q)<=rk z:=fun q hq=>by have:=ua q (na - 1) (by lia) (by lia);rwa [show sa + (na - 1)=sa + na - 1 by lia,iQ hz']at this
 refine bZ (fun e2=>br ?_) fun e2=>?_
 ·have e2:=kE e2;refine h st1 (by rw[a1];exact hp) k1 f1 p1 (fun _ _=>by rw[a1]) ?_;rw[a1];exact whole fun q hq q' hq'=>eR (uaz q hq) (nr' q' (by lia) hq')
 have e2:=gA e2;have hxl:xs.toList.length=a₀.size:=by rw[kS];exact sz
 obtain⟨P,hP⟩:∃P,P=xs.toList.take sa:=⟨_,rfl⟩
 obtain⟨A1,hA1⟩:∃P,P=(xs.toList.drop sa).take k:=⟨_,rfl⟩
 obtain⟨X,hX⟩:∃P,P=(xs.toList.drop (sa + k)).take (na - k):=⟨_,rfl⟩
 obtain⟨Y,hY⟩:∃P,P=(xs.toList.drop (sa + na)).take n:=⟨_,rfl⟩
 obtain⟨B2,hB2⟩:∃P,P=(xs.toList.drop (sa + na + n)).take (nb - n):=⟨_,rfl⟩
 obtain⟨S,hS⟩:∃P,P=xs.toList.drop (sa + na + nb):=⟨_,rfl⟩
 have lP:P.length=sa:=by rw[hP,j3];lia
 have lA:A1.length=k:=by rw[hA1,j3,mB];lia
 have lX:X.length=na - k:=by rw[hX,j3,mB];lia
 have lY:Y.length=n:=by rw[hY,j3,mB];lia
 have lB:B2.length=nb - n:=by rw[hB2,j3,mB];lia
 have hl:xs.toList=P++(A1++(X++(Y++(B2++S)))):=by rw[hP,hA1,hX,hY,hB2,hS];have s5:=mH xs.toList (sa + na + n) (nb - n);rw[show sa + na + n + (nb - n)=sa + na + nb by lia]at s5;rw[<- s5,<- mH xs.toList (sa + na) n];have s3:=mH xs.toList (sa + k) (na - k);rw[show sa + k + (na - k)=sa + na by lia]at s3;rw[<- s3,<- mH xs.toList sa k,q9]
 have eX:(xs.extract (sa + k) (sa + na)).toList=X:=by rw[pF,hX];congr 1;lia
 have eY:(xs.extract (sa + na) (sa + na + n)).toList=Y:=by rw[pF,hY];congr 1;lia
 have aA:gW rk (A1++X):=by
  have:xs.toList=P++((A1++X)++(Y++(B2++S))):=by rw[hl];simp
  refine(JR this).mp ?_;rw[lP,dE,lA,lX,show k + (na - k)=na by lia];exact ua
 have aB:gW rk (Y++B2):=by
  have:xs.toList=(P++(A1++X))++((Y++B2)++S):=by rw[hl];simp
  have u:=JR (rk:=rk) this;rw[dE,dE,lP,lA,lX,dE,lY,lB,show sa + (k + (na - k))=sa + na by lia,show n + (nb - n)=nb by lia]at u;exact u.mp ub
 obtain⟨sA,sX,sAX⟩:=jv.mp aA;obtain⟨sY,sB,sYB⟩:=jv.mp aB;have afz:∀v∈A1,rk v<=rk y:=fun v hv=>by rw[hA1]at hv;obtain⟨j,hj,ej⟩:=lV hv;have:=kl' j hj;rwa [iQ ej]at this
 have ahO:∀v∈X,rk v<=rk z:=fun v hv=>by rw[hX]at hv;obtain⟨j,hj,ej⟩:=lV hv;have:=uaz (k + j) (by lia);rwa [<- o8,iQ ej]at this
 have Zv:∀v∈Y,rk y<=rk v/\rk v < rk z:=fun v hv=>by rw[hY]at hv;obtain⟨j,hj,ej⟩:=lV hv;have q1:=ub0 j (by lia);have q2:=nl' j hj;rw[iQ ej]at q1 q2;exact⟨q1,q2⟩
 have acX:∀v∈B2,rk z<=rk v:=fun v hv=>by rw[hB2]at hv;obtain⟨j,hj,ej⟩:=lV hv;have:=nr' (n + j) (by lia) (by lia);rwa [<- o8,iQ ej]at this
 have gX:∀q,q < na - k->(xs.extract (sa + k) (sa + na))[q]?=xs[sa + k + q]?:=fun q hq=>by rw[Array.getElem?_extract,if_pos (by lia)]
 have gY:∀q,q < n->(xs.extract (sa + na) (sa + na + n))[q]?=xs[sa + na + q]?:=fun q hq=>by rw[Array.getElem?_extract,if_pos (by lia)]
 have szX:(xs.extract (sa + k) (sa + na)).size=na - k:=by rw[q_];lia
 have szY:(xs.extract (sa + na) (sa + na + n)).size=n:=by rw[q_];lia
 have m:Hi prog w A s κ rk a₀ (xs.extract (sa + k) (sa + na)) (xs.extract (sa + na) (sa + na + n)):=by
  refine⟨h0,by rw[eX];exact sX,by rw[eY];exact sY,fun v hv=>mem v ?_,fun v hv=>mem v ?_,by lia,by lia,?_,fun v hv=>?_⟩
  ·rw[eX]at hv;rw[hl];simp[hv]
  ·rw[eY]at hv;rw[hl];simp[hv]
  ·rw[jV (gX 0 (by lia)),jV (gY 0 (by lia)),m_,m_,iQ hy];exact kr' k (bz _) (by lia)
  ·rw[szX,jV (gX (na - k - 1) (by lia)),show sa + k + (na - k - 1)=sa + na - 1 by lia,iQ hz'];rw[eY]at hv;exact gN (Zv v hv).2
 have dY:∀(mm:Array aw) (st2:bo),cN st1 st2->Aj rk (xs.extract (sa + k) (sa + na)) (xs.extract (sa + na) (sa + na + n)) mm->wpS (ax prog w) A E s (do
   modify fun s=>setArr s (mm.toList.zipIdx.foldl (fun a (p,j)=>a.setIfInBounds (sa + k + j) p) (ay s))
   let s <- get
   pure (fy s).isNone) Q st2:=fun mm st2 hS2 ⟨hr,hu⟩=>by
  rw[eX,eY]at hr;have lm:mm.toList.length=(X++Y).length:=hr.length_eq;have put:=Hr (base:=sa + k) mm.toList 0 (P++A1) (X++Y) (B2++S) xs (by rw[hl];simp) (by rw[dE,lP,lA];lia) lm;refine bb (jn (bb (g_ ?_)));have e3:ay st2=xs:=hS2.1.trans a1;have key:∀ys:Array aw,ys.toList=P++(A1++(mm.toList++(B2++S)))->∀st',ay st'=ys->kindOf st'=κ->fy st'=none->b9 st'=b9 st1->Q true st':=by
   intro ys hys st' e4 e5 e6 e7;refine h st' ?_ e5 e6 (e7.trans p1) ?_ ?_
   ·rw[e4];refine Array.Perm.trans (q8.mpr ?_) hp;rw[hys,hl];refine rf _ (rf _ ?_);rw[<- j9 X Y];exact vt _ hr
   ·intro q hq;rw[e4,<- ka,<- ka,hys,hl];rw[dE,lX,lY]at lm;rcases hq with hq|hq
    ·rw[i7 (by lia),i7 (by lia)]
    ·have e8:P++(A1++(mm.toList++(B2++S)))=(P++(A1++(mm.toList++B2)))++S:=by simp
     have e9:P++(A1++(X++(Y++(B2++S))))=(P++(A1++(X++(Y++B2))))++S:=by simp
     have l1:(P++(A1++(mm.toList++B2))).length=sa + na + nb:=by simp only[dE];lia
     have l2:(P++(A1++(X++(Y++B2)))).length=sa + na + nb:=by simp only[dE];lia
     rw[e8,e9,i6 (by lia),i6 (by lia),l1,l2]
   ·rw[e4];have e8:ys.toList=P++((A1++(mm.toList++B2))++S):=by rw[hys];simp
    have u:=JR (rk:=rk) e8;have l1:(A1++(mm.toList++B2)).length=na + nb:=by simp only[dE]at lm ⊢;lia
    rw[lP,l1]at u;refine u.mpr (jv.mpr ⟨sA,jv.mpr ⟨hu,sB,fun v hv t ht=>?_⟩,fun v hv t ht=>?_⟩)
    ·rcases dQ.mp (hr.mem_iff.mp hv) with hv|hv
     ·exact eR (ahO v hv) (acX t ht)
     ·exact eR (gN (Zv v hv).2) (acX t ht)
    ·rcases dQ.mp ht with ht|ht
     ·rcases dQ.mp (hr.mem_iff.mp ht) with ht|ht
      ·exact sAX v hv t ht
      ·exact eR (afz v hv) (Zv t ht).1
     ·have q1:=afz v hv;have q2:=(Zv y (by
       have:=df.mp (show Y[0]?=some y by rw[hY,mo (by lia),o7,m_];simpa using hy);obtain⟨q,rfl⟩:=this;exact j7 q)).2
      have q3:=acX t ht;lia
  rw[<- e3]at put;have:=key _ (by rw[put];simp) (setArr st2 (mm.toList.zipIdx.foldl (fun a (p,j)=>a.setIfInBounds (sa + k + j) p) (ay st2))) rfl (hS2.2.1.trans k1) (hS2.2.2.2.trans f1) hS2.2.2.1;have e10:(fy (setArr st2 (mm.toList.zipIdx.foldl (fun a (p,j)=>a.setIfInBounds (sa + k + j) p) (ay st2)))).isNone=true:=by show(fy st2).isNone=true;rw[hS2.2.2.2.trans f1];rfl
  rw[e10];exact br this
 exact bZ (fun _=>bb (Hj m k1 dY)) fun _=>bb (Ho m k1 dY)
end
noncomputable def Rn(rk:aw->Int)(xs:Array aw):Nat->List (Nat×Nat×Nat)->Nat->Prop
 |a,[],e=>a=e
 |a,t::l,e=>t.1=a/\1<=t.2.1/\Up rk xs a t.2.1/\Rn rk xs (a + t.2.1) l e
section
variable{rk:aw->Int}{xs ys:Array aw}
theorem Rn.le:∀{l:List (Nat×Nat×Nat)}{a e:Nat},Rn rk xs a l e->a + l.length<=e
 | [],a,e,h=>by simp only[Rn]at h;simp;lia
 |t::l,a,e,h=>by obtain⟨h1,h2,h3,h4⟩:=h;have:=Rn.le h4;simp only[cq];lia
theorem Rn.app:∀{l l':List (Nat×Nat×Nat)}{a e:Nat},Rn rk xs a (l++l') e↔∃m,Rn rk xs a l m/\Rn rk xs m l' e
 | [],l',a,e=>by
  constructor
  ·intro h;exact⟨a,rfl,h⟩
  ·rintro⟨m,rfl,h⟩;exact h
 |t::l,l',a,e=>by
  constructor
  ·rintro⟨h1,h2,h3,h4⟩;obtain⟨m,g1,g2⟩:=Rn.app.mp h4;exact⟨m,⟨h1,h2,h3,g1⟩,g2⟩
  ·rintro⟨m,⟨h1,h2,h3,h4⟩,g⟩;exact⟨h1,h2,h3,Rn.app.mpr ⟨m,h4,g⟩⟩
theorem Up.congr{a n:Nat}(h:Up rk xs a n)(hc:∀q,a<=q->q < a + n->ys[q]?=xs[q]?):Up rk ys a n:=fun i j hij hj=>by rw[jV (hc (a + i) (by lia) (by lia)),jV (hc (a + j) (by lia) (by lia))];exact h i j hij hj
theorem Rn.congr:∀{l:List (Nat×Nat×Nat)}{a e:Nat},Rn rk xs a l e->(∀q,a<=q->q < e->ys[q]?=xs[q]?)->Rn rk ys a l e
 | [],a,e,h,_=>h
 |t::l,a,e,⟨h1,h2,h3,h4⟩,hc=>by have:=h4.le;exact⟨h1,h2,h3.congr fun q q1 q2=>hc q q1 (by lia),h4.congr fun q q1 q2=>hc q (by lia) q2⟩
theorem Rn.pow:∀{l l':List (Nat×Nat×Nat)}{a e:Nat},Rn rk xs a l e->l'.map (fun t=>(t.1,t.2.1))=l.map (fun t=>(t.1,t.2.1))->Rn rk xs a l' e
 | [],l',a,e,h,hm=>by
  obtain rfl:l'=[]:=by simpa using hm
  exact h
 |t::l,[],a,e,h,hm=>by cases hm
 |t::l,t'::l',a,e,⟨h1,h2,h3,h4⟩,hm=>by simp only[cb,List.cons.injEq,vc]at hm;obtain⟨⟨m1,m2⟩,m3⟩:=hm;exact⟨m1.trans h1,by rw[m2];exact h2,by rw[m2];exact h3,by rw[m2];exact h4.pow m3⟩
theorem zA(f:Nat×Nat×Nat->Nat×Nat×Nat)(hf:∀t,((f t).1,(f t).2.1)=(t.1,t.2.1)):∀(l:List (Nat×Nat×Nat)) (i:Nat),(l.modify i f).map (fun t=>(t.1,t.2.1))=l.map (fun t=>(t.1,t.2.1))
 | [],i=>by simp
 |t::l,0=>by simp only[List.modify_zero_cons,cb,hf]
 |t::l,i + 1=>by simp only[List.modify_succ_cons,cb,zA f hf l i]
theorem acY{α:Type}(l:List α)(i:Nat)(h:i + 1 < l.length):l=l.take i++(l[i]::l[i + 1]::l.drop (i + 2)):=by
 conv=>lhs;rw[<- q9 i l,iq (by lia),iq (by lia)]
theorem ahP{α:Type}(P:List α)(t u v:α)(S:List α)(i:Nat)(hP:P.length=i):((P++(t::u::S)).set i v).eraseIdx (i + 1)=P++(v::S):=by
 subst hP
 induction P with
 |nil=>rfl
 |cons p P ih =>
  simp only[o_,cq,h_,List.eraseIdx_cons_succ,ih]
end
section
variable{prog:aE}{w:az}{A:aI}{E:aa->af->Prop}{s:af}{a₀:Array aw}{κ:fx}{rk:aw->Int}
structure Sr (κ:fx)(rk:aw->Int)(a₀:Array aw)(lo:Nat)(st:bo):Prop where
 perm:(ay st).Perm a₀
 kind:kindOf st=κ
 failed:fy st=none
 runs:Rn rk (ay st) 0 (b9 st).toList lo
theorem sZ{st:bo}{i e:Nat}{Q:Bool->bo->Prop}(h0:Ax prog w A s κ rk a₀)(h:Sr κ rk a₀ e st)(he:e<=a₀.size)(hi:i + 1 < (b9 st).size)
  (hq:∀st',Sr κ rk a₀ e st'->(b9 st').size + 1=(b9 st).size->(∀q,e<=q->(ay st')[q]?=(ay st)[q]?)->Q true st'):wpS (ax prog w) A E s (mergeAt' i) Q st:=by
 have hr:=h.runs;have sp:=acY (b9 st).toList i (by simpa using hi);generalize hpre:(b9 st).toList.take i=pre at sp;generalize (b9 st).toList.drop (i + 2)=post at sp;have lp:pre.length=i:=by rw[<- hpre,j3];simp;lia
 rw[sp]at hr;obtain⟨m,r1,h1,h2,h3,h4,h5,h6,h7⟩:=Rn.app.mp hr;simp only[Array.getElem_toList]at h1 h2 h3 h4 h5 h6 h7 sp;have e1:(b9 st)[i]?=some (m,(b9 st)[i].2.1,(b9 st)[i].2.2):=by rw[getElem?_pos _ i (by lia)];exact congrArg some (Prod.ext h1 rfl)
 have e2:(b9 st)[i + 1]?=some (m + (b9 st)[i].2.1,(b9 st)[i + 1].2.1,(b9 st)[i + 1].2.2):=by rw[getElem?_pos _ (i + 1) (by lia)];exact congrArg some (Prod.ext h4 rfl)
 have l7:=h7.le;refine Ht h0 h.perm h.kind h.failed e1 e2 h2 h5 (by lia) h3 h6 fun st' p1 p2 p3 p4 p5 p6=>?_;have e3:(b9 st').toList=pre++((m,(b9 st)[i].2.1 + (b9 st)[i + 1].2.1,(b9 st)[i].2.2)::post):=by rw[p4,Array.toList_eraseIdxIfInBounds,Array.toList_setIfInBounds,sp];exact ahP _ _ _ _ _ _ lp
 refine hq st' ⟨p1,p2,p3,?_⟩ ?_ fun q hq=>p5 q (.inr (by lia))
 ·rw[e3];have l1:=r1.le;refine Rn.app.mpr ⟨m,r1.congr fun q _ q2=>p5 q (.inl q2),rfl,by show 1<=_ + _;lia,p6,?_⟩;show Rn rk (ay st') (m + (_ + _)) post e;rw[<- o8];exact h7.congr fun q q1 _=>p5 q (.inr q1)
 ·have q1:=congrArg il e3;have q2:=congrArg il sp;simp only[kS,dE,cq]at q1 q2;lia
theorem Sr.push{st:bo}{lo n:Nat}(h:Sr κ rk a₀ lo st)(hn:1<=n)(hu:Up rk (ay st) lo n):Sr κ rk a₀ (lo + n) (nB st ((b9 st).push (lo,n,0))):=by refine⟨h.perm,h.kind,h.failed,?_⟩;show Rn rk (ay st) 0 ((b9 st).push (lo,n,0)).toList (lo + n);rw[Array.toList_push];exact Rn.app.mpr ⟨lo,h.runs,rfl,hn,hu,rfl⟩
theorem Sr.aaZ{st:bo}{lo:Nat}(h:Sr κ rk a₀ lo st)(f:Nat×Nat×Nat->Nat×Nat×Nat)(hf:∀t,((f t).1,(f t).2.1)=(t.1,t.2.1)){i:Nat}:Sr κ rk a₀ lo (nB st ((b9 st).modify i f)):=by refine⟨h.perm,h.kind,h.failed,h.runs.pow ?_⟩;show((b9 st).modify _ _).toList.map _=_;rw[Array.toList_modify];exact zA f hf _ _
theorem zB:∀(f n r:Nat),1<=n + r->1<=pd f n r
 | 0,n,r,h=>h
 |f + 1,n,r,h=>by
  rw[minRun'_succ];split
  ·exact h
  ·exact zB f (n / 2) (max r (n % 2)) (by lia)
theorem DY{st:bo}{Q:Unit->bo->Prop}(h0:Ax prog w A s κ rk a₀)(hp:ay st=a₀)(hk:kindOf st=κ)(hf:fy st=none)(hpd:b9 st=#[])(h2:2<=a₀.size)
  (hq:∀st',(ay st').Perm a₀->fy st'=none->Up rk (ay st') 0 a₀.size->Q () st'):wpS (ax prog w) A E s sortRuns' Q st:=by
 rw[sortRuns'_eq];refine bb (g_ ?_);dsimp only;rw[hp];have mr:1<=pd a₀.size a₀.size 0:=zB _ _ _ (by lia);refine bb (eJ (fv (I:=fun x c st'=>∃lo,c=(none,lo)/\x<=lo/\lo<=a₀.size/\Sr κ rk a₀ lo st')
  (Q:=fun c st'=>c=(none,a₀.size)/\Sr κ rk a₀ a₀.size st') ?step ?dY ⟨0,rfl,bz _,by lia,by rw[hp],hk,hf,by rw[hpd];rfl⟩) ?post)
 case dY =>
  rintro c st' ⟨lo,rfl,h1,h2,hS⟩;obtain rfl:lo=a₀.size:=by lia
  exact⟨rfl,hS⟩
 case post =>
  rintro c st' ⟨rfl,hS⟩;dsimp only;refine bb (eJ (fv (I:=fun x c st''=>c=(none,())/\Sr κ rk a₀ a₀.size st''/\((b9 st'').size<=1∨(b9 st'').size + x<=a₀.size))
   (Q:=fun c st''=>c=(none,())/\Sr κ rk a₀ a₀.size st''/\(b9 st'').size<=1) ?s2 ?f2 ⟨rfl,hS,.inr (by have:=hS.runs.le;simpa using this)⟩) ?p2)
  case f2 =>
   rintro c st'' ⟨rfl,hS,hl⟩;exact⟨rfl,hS,by lia⟩
  case s2 =>
   rintro x c st'' _ hx ⟨rfl,hS,hl⟩;refine bb (g_ ?_);refine bZ (fun e=>br ⟨rfl,hS,e⟩) fun e=>?_;have ite_le:∀(c:Prop) [Decidable c],(if c then (b9 st'').size - 2 - 1 else (b9 st'').size - 2) + 1 < (b9 st'').size:=fun c _=>by split <;> lia
   refine bb (sZ h0 hS (bz _) ?_ fun st2 hS2 hz _=>?_)
   ·exact ite_le _
   ·simp only[gp,cn,if_false];exact br ⟨rfl,hS2,by lia⟩
  case p2 =>
   rintro c st'' ⟨rfl,hS,hl⟩;dsimp only;refine br (hq st'' hS.perm hS.failed ?_);have hr:=hS.runs;cases e:(b9 st'').toList with
   |nil=>rw[e]at hr;simp only[Rn]at hr;lia
   |cons t l =>
    have:l=[]:=by have:=congrArg il e;simp only[kS,cq]at this;exact rS.mp (by lia)
    subst this;rw[e]at hr;obtain⟨_,_,r3,r4⟩:=hr;simp only[Rn]at r4;rw[show t.2.1=a₀.size by lia]at r3;exact r3
 case step =>
  rintro x c st' _ hx ⟨lo,rfl,h1,h3,hS⟩;dsimp only;refine bZ (fun e=>?_) fun e=>?_
  ·obtain rfl:lo=a₀.size:=by lia
   exact br ⟨rfl,hS⟩
  ·have hB:SB κ a₀ (ay st') (b9 st') lo st':=⟨hS.perm,hS.kind,hS.failed,rfl,fun _ _=>rfl⟩
   have back:∀st2,SB κ a₀ (ay st') (b9 st') lo st2->Sr κ rk a₀ lo st2:=fun st2 hB2=>⟨hB2.perm,hB2.kind,hB2.failed,by
    rw[hB2.pend];exact hS.runs.congr fun q _ q2=>hB2.keep q q2⟩
   refine bb (Qn h0 (show lo + (a₀.size - lo)<=a₀.size by lia) (by lia) hB fun m st2 hB2 m1 m2 um=>?_);dsimp only;refine bZ (fun c=>?_) fun c=>?_
   ·refine bb (ls (f7 ⟨rfl,?_⟩));refine bb (Zo h0 (show lo + min (a₀.size - lo) (pd a₀.size a₀.size 0)<=a₀.size by lia) (by lia) hB2 um fun st3 hB3 u3=>?_);simp only[gp,cn,if_false];have hS0:=back st3 hB3;have Hu:∀Bq,Sr κ rk a₀ lo Bq->(∀q,lo<=q->(ay Bq)[q]?=(ay st3)[q]?)->Sr κ rk a₀ (lo + min (a₀.size - lo) (pd a₀.size a₀.size 0)) (nB Bq ((b9 Bq).push (lo,min (a₀.size - lo) (pd a₀.size a₀.size 0),0))):=fun Bq h4 hk4=>h4.push (by lia) (u3.congr fun q q1 _=>hk4 q q1);refine bb (g_ ?_);cases cc:(b9 st3).back? with
    |none =>
     dsimp only;exact bb (jn (br ⟨_,rfl,by lia,by lia,Hu _ hS0 fun _ _=>rfl⟩))
    |some t =>
     obtain⟨s1,n1,p1⟩:=t;dsimp only;refine bb (eJ (fv (I:=fun _ c st'=>c=(none,())/\Sr κ rk a₀ lo st'/\∀q,lo<=q->(ay st')[q]?=(ay st3)[q]?)
      (Q:=fun c st'=>c=(none,())/\Sr κ rk a₀ lo st'/\∀q,lo<=q->(ay st')[q]?=(ay st3)[q]?) ?Ux (fun _ _ hh=>hh) ⟨rfl,hS0,fun _ _=>rfl⟩) ?Uy)
     case Uy =>
      rintro c st' ⟨rfl,hS,hk⟩;dsimp only;refine bb (jn (bb (jn (br ⟨_,rfl,by lia,by lia,Hu _ (hS.aaZ _ ?_) hk⟩))));exact fun t=>rfl
     case Ux =>
      rintro x c st' _ hx ⟨rfl,hS,hk⟩;refine bb (g_ ?_);by_cases c:(b9 st').size > 1
      ·rw[if_pos c,getElem?_pos (b9 st') ((b9 st').size - 2) (by lia)];dsimp only;refine bZ (fun _=>br ⟨rfl,hS,hk⟩) fun _=>?_;refine bb (sZ h0 hS (by lia) (by lia) fun st2 hS2 _ hk2=>?_);simp only[gp,cn,if_false];exact br ⟨rfl,hS2,fun q hq=>(hk2 q hq).trans (hk q hq)⟩
      ·rw[if_neg c];exact br ⟨rfl,hS,hk⟩
   ·have hS0:=back st2 hB2;have Hu:∀Bq,Sr κ rk a₀ lo Bq->(∀q,lo<=q->(ay Bq)[q]?=(ay st2)[q]?)->Sr κ rk a₀ (lo + m) (nB Bq ((b9 Bq).push (lo,m,0))):=fun Bq h4 hk4=>h4.push (by lia) (um.congr fun q q1 _=>hk4 q q1);refine bb (g_ ?_);cases cc:(b9 st2).back? with
    |none =>
     dsimp only;exact bb (jn (br ⟨_,rfl,by lia,by lia,Hu _ hS0 fun _ _=>rfl⟩))
    |some t =>
     obtain⟨s1,n1,p1⟩:=t;dsimp only;refine bb (eJ (fv (I:=fun _ c st'=>c=(none,())/\Sr κ rk a₀ lo st'/\∀q,lo<=q->(ay st')[q]?=(ay st2)[q]?)
      (Q:=fun c st'=>c=(none,())/\Sr κ rk a₀ lo st'/\∀q,lo<=q->(ay st')[q]?=(ay st2)[q]?) ?Ux (fun _ _ hh=>hh) ⟨rfl,hS0,fun _ _=>rfl⟩) ?Uy)
     case Uy =>
      rintro c st' ⟨rfl,hS,hk⟩;dsimp only;refine bb (jn (bb (jn (br ⟨_,rfl,by lia,by lia,Hu _ (hS.aaZ _ ?_) hk⟩))));exact fun t=>rfl
     case Ux =>
      rintro x c st' _ hx ⟨rfl,hS,hk⟩;refine bb (g_ ?_);by_cases c:(b9 st').size > 1
      ·rw[if_pos c,getElem?_pos (b9 st') ((b9 st').size - 2) (by lia)];dsimp only;refine bZ (fun _=>br ⟨rfl,hS,hk⟩) fun _=>?_;refine bb (sZ h0 hS (by lia) (by lia) fun st2 hS2 _ hk2=>?_);simp only[gp,cn,if_false];exact br ⟨rfl,hS2,fun q hq=>(hk2 q hq).trans (hk q hq)⟩
      ·rw[if_neg c];exact br ⟨rfl,hS,hk⟩
end
end Sb
namespace Sb
open PySem PySem.W PyProof.Rows So
noncomputable def rkI(lt:Nat->Nat->Bool)(n i:Nat):Int:=((cz n).filter fun j=>lt j i).length
theorem Ea{α:Type}{p q:α->Bool}:∀{l:List α},(∀x∈l,p x=true->q x=true)->(l.filter p).length<=(l.filter q).length
 | [],_=>bz _
 |x::l,h=>by
  have ih:=Ea (l:=l) fun y hy=>h y (.tail _ hy);have hx:=h x (.head _);rw[nE,nE];cases c:p x with
  |false =>
   simp only[cn,if_false];split
   ·simp only[cq];lia
   ·exact ih
  |true =>
   rw[hx c];simp only[if_true,cq];lia
theorem Uz{α:Type}{p q:α->Bool}:∀{l:List α}{z:α},(∀x∈l,p x=true->q x=true)->z∈l->p z=false->q z=true->(l.filter p).length < (l.filter q).length
 | [],_,_,hz,_,_=>by cases hz
 |x::l,z,h,hz,pz,qz=>by
  have ih0:=Ea (l:=l) fun y hy=>h y (.tail _ hy);have hx:=h x (.head _);rw[nE,nE];rcases bP.mp hz with rfl|hz
  ·rw[pz,qz];simp only[cn,if_false,if_true,cq];lia
  ·have ih:=Uz (l:=l) (fun y hy=>h y (.tail _ hy)) hz pz qz;cases c:p x with
   |false =>
    simp only[cn,if_false];split
    ·simp only[cq];lia
    ·exact ih
   |true =>
    rw[hx c];simp only[if_true,cq];lia
theorem abd{lt:Nat->Nat->Bool}(O:Ord lt){n i j:Nat}(hi:i < n):decide (rkI lt n i < rkI lt n j)=lt i j:=by
 unfold rkI;cases c:lt i j with
 |true =>
  refine decide_eq_true (Int.ofNat_lt.mpr (Uz (z:=i) (fun k _ hk=>?_) (iS.mpr hi) (irr O i) c));cases d:lt k j with
  |true=>rfl
  |false =>
   have h1:lt i k=false:=O.as k i hk;have h2:=O.tr j k i d h1;rw[c]at h2;cases h2
 |false =>
  refine decide_eq_false fun q=>?_;have q:=Int.ofNat_lt.mp q;have:=Ea (p:=fun k=>lt k j) (q:=fun k=>lt k i) (l:=cz n) fun k _ hk=>by
   cases d:lt k i with
   |true=>rfl
   |false =>
    have h2:=O.tr j i k c d;rw[hk]at h2;cases h2
  lia
theorem UJ{α:Type}{d:α}{l1 l2:List α}(h:l1.Perm l2):∃q:List Nat,q.Perm (cz l2.length)/\l1=q.map fun i=>l2.getD i d:=by
 induction h with
 |nil=>exact⟨[],.refl _,rfl⟩
 |cons x h ih =>
  obtain⟨q,hq,e⟩:=ih;refine⟨0::q.map (· + 1),?_,?_⟩
  ·rw[cq,oz];exact(hq.map _).cons 0
  ·rw[cb,iF,e];simp[qk]
 |swap x y l =>
  refine⟨1::0::(cz l.length).map (· + 2),?_,?_⟩
  ·rw[cq,cq,oz,oz,cb,iF];exact nc.swap 0 1 _
  ·rw[cb,cb,iF];have:l=(cz l.length).map fun i=>l.getD i d:=by
    apply oI
    ·simp
    ·intro i h1 h2;simp[h1]
   simp only[qk];rw[List.getD_cons_succ,List.getD_cons_zero,List.getD_cons_zero];congr 2
 |trans h1 h2 ih1 ih2 =>
  obtain⟨q1,p1,e1⟩:=ih1;obtain⟨q2,p2,e2⟩:=ih2;have l2:=h2.length_eq;have lq:=p2.length_eq;rw[ke]at lq;refine⟨q1.map fun i=>q2.getD i 0,?_,?_⟩
  ·refine(p1.map _).trans (nc.trans (qS ?_) p2);apply oI
   ·simp;lia
   ·intro i h1 h2;simp only[cx,ke]at h1;simp only[List.getElem_map,List.getElem_range,f6];rw[du h2];rfl
  ·rw[e1,iF];refine nI fun i hi=>?_;have hi':i < q2.length:=by have:=iS.mp (p1.mem_iff.mp hi);lia
   show List.getD _ i d=List.getD _ (List.getD q2 i 0) d;rw[e2];simp only[f6,cK,du hi',vk,rV]
section
variable{prog:aE}{w:az}{A:aI}{E:aa->af->Prop}{s:af}
theorem UL{lt:Nat->Nat->Bool}{κ:fx}{vs:List aa}{Q:bo->af->Prop}(O:Ord lt)(h2:2<=vs.length)(ha:afv prog w A κ vs lt s)
  (hd:∀i i',i < vs.length->i' < vs.length->vs.getD i aa.none=vs.getD i' aa.none->∀j,lt j i=lt j i')
  (h:∀st,JL lt vs st->Q st s):ar (ax prog w) A ((sortRuns').run (rL κ (vs.toArray.zip vs.toArray) #[] 7 none)) (fun r s'=>Q r.2 s') E s:=by
 classical
 let it:Nat->aw:=fun i=>(vs.getD i aa.none,vs.getD i aa.none)
 let rk:aw->Int:=fun x=>if h:∃i,i < vs.length/\it i=x then rkI lt vs.length (vx h) else 0
 have rki:∀i,i < vs.length->rk (it i)=rkI lt vs.length i:=fun i hi=>by
  have ex:∃j,j < vs.length/\it j=it i:=⟨i,hi,rfl⟩
  show(if h:∃j,j < vs.length/\it j=it i then rkI lt vs.length (vx h) else 0)=_;rw[dif_pos ex];obtain⟨c1,c2⟩:=Classical.choose_spec ex;unfold rkI;have:=hd _ i c1 hi (congrArg Prod.fst c2);rw[show(fun j=>lt j (vx ex))=fun j=>lt j i from funext this]
 have hz:(vs.toArray.zip vs.toArray).toList=(cz vs.length).map it:=by
  apply oI
  ·simp
  ·intro i h1 h2;simp at h1;simp[it,h1]
 have hsz:(vs.toArray.zip vs.toArray).size=vs.length:=by simp
 have hA:Ax prog w A s κ rk (vs.toArray.zip vs.toArray):=by intro x y C E' hx hy hC;rw[hz]at hx hy;obtain⟨i,hi,rfl⟩:=eQ.mp hx;obtain⟨j,hj,rfl⟩:=eQ.mp hy;have hi:=iS.mp hi;have hj:=iS.mp hj;rw[rki i hi,rki j hj,abd O hi]at hC;exact ha i j C E' hi hj hC
 have main:=DY (prog:=prog) (w:=w) (A:=A) (E:=E) (s:=s) (st:=rL κ (vs.toArray.zip vs.toArray) #[] 7 none) (Q:=fun _ st=>JL lt vs st) hA rfl rfl rfl rfl (by rw[hsz];exact h2) fun st p1 p2 p3=>?_
 ·exact dS main (fun r s' ⟨e,hs⟩=>by subst e;exact h _ hs) fun _ _ e=>e
 ·obtain⟨q,hq,e⟩:=UJ (d:=it 0) (q8.mp p1);have ln:(vs.toArray.zip vs.toArray).toList.length=vs.length:=by simp
  rw[ln]at hq;have lq:=hq.length_eq;rw[ke]at lq;have qlt:∀i∈q,i < vs.length:=fun i hi=>iS.mp (hq.mem_iff.mp hi);have e':(ay st).toList=q.map it:=by rw[e];refine nI fun i hi=>?_;rw[hz,f6,cK,List.getElem?_range (qlt i hi)];rfl
  refine⟨q.toArray,⟨by simp[lq],fun i=>?_,by simpa using hq⟩,fun i j hij hj=>?_,?_,p2⟩
  ·rw[oP];by_cases c:i < q.length
   ·have:q.toArray[i]?=some q[i]:=by simp[c]
    rw[this];exact qlt _ (j7 c)
   ·have:q.toArray[i]?=none:=by simp;lia
    rw[this];show 0 < vs.length;lia
  ·have hi':i < q.length:=by lia
   have hj':j < q.length:=by lia
   have g:∀k (hk:k < q.length),R rk (ay st) k=rkI lt vs.length q[k]:=fun k hk=>by rw[<- rki _ (qlt _ (j7 hk))];refine iQ ?_;rw[<- ka,e',cK,du hk];rfl
   have u:=p3 i j (by lia) (by rw[hsz];exact hj);rw[hZ,hZ,g i hi',g j hj']at u;have e1:q.toArray.getD i 0=q[i]:=by simp[oP,hi']
   have e2:q.toArray.getD j 0=q[j]:=by simp[oP,hj']
   rw[e1,e2,<- abd O (qlt _ (j7 hj'))];exact decide_eq_false (by lia)
  ·apply vn.mp;rw[Array.toList_map,e',iF];rfl
end
end Sb
namespace So
open PySem PySem.W PyProof.Rows PySem.Calls
section
variable{prog:aE}{w:az}{A:aI}{E:aa->af->Prop}{s:af}
theorem BP:∀{ks js:List Int}{xs:List aa},ItemsAre (de prog w) ks xs->ItemsAre (de prog w) js xs->ks=js
 |_,_,_,.nil,.nil=>rfl
 |_,_,_,.cons h1 h2,.cons h3 h4=>by obtain⟨t,e1⟩:=l8 h1;obtain⟨u,e2⟩:=l8 h3;rw[e1]at e2;cases e2;rw[BP h2 h4]
theorem KeysAre.det{h:Heap}{vs:List aa}{bI:LL}(k:KeysAre prog w h vs bI):∀i i',i < vs.length->i' < vs.length->vs.getD i aa.none=vs.getD i' aa.none->∀j,jk (bI.getD j []) (bI.getD i [])=jk (bI.getD j []) (bI.getD i' []):=by intro i i' hi hi' he j;obtain⟨b,e1,o,its,n,q1,q2,q3,q4⟩:=k.2 i vs[i] (du hi);obtain⟨b',e2,o',its',n',r1,r2,r3,r4⟩:=k.2 i' vs[i'] (du hi');rw[f6,f6,du hi,du hi',rV,rV,e1,e2]at he;cases he;rw[q1]at r1;cases r1;rw[q3]at r3;cases r3;rw[BP q4 r4]
theorem zE{a:ae}{vs:List aa}{bI:LL}{n:Nat}{P:pf->af->Prop}(ho:s.heap.get? a=some (eS "list" vs.toArray n))
  (hk:KeysAre prog w s.heap vs bI) (hne:∀ks∈bI,ks≠[]) (h64:vs.length < 4900)
  (h:∀(p:Array Nat),GQ bI p->P (.done (.ret .none)) { s with heap:=sortedHeap s.heap a vs (kB (p.toList.map fun i=>vs.getD i aa.none)) }) :
  ar (ax prog w) A (Builtin.«list.sort» ⟨[.ref a],[]⟩) P E s:=by
 rw[list_sort_plain];have ha:a < s.heap.objs.size:=bE ho;refine ag (listItems_at ho rfl ?_);refine ag (vy ho rfl ?_ (by rw[cE,eM];lia) (fR _));obtain⟨e1,ho1⟩:∃e1,(s.heap.update a (dA fun _=>#[])).get? a=some (eS "list" #[] e1):=⟨_,vz ho (fun _=>#[])⟩
 refine ag (vE ho1 rfl ?_);refine ag (wpAny_newTuple ?_ (by show vs.length<=_;rw[eM];lia));refine ag (wpAny_newList ?_ (fR _));refine e_ ?_;have ho6:(((s.heap.update a (dA fun _=>#[])).push (eS "tuple" vs.toArray 0)).push (eS "list" #[] 0)).get? a=some (eS "list" #[] e1):=by rw[Heap.get?_push_ne _ _ _ (by rw[size_push',rX];exact ck (j8 ha)),Heap.get?_push_ne _ _ _ (by rw[rX];exact ck ha)];exact ho1
 show ar (ax prog w) A _ P E { s with heap:=((s.heap.update a (dA fun _=>#[])).push (eS "tuple" vs.toArray 0)).push (eS "list" #[] 0) };dsimp only;have hsz:vs.toArray.size=vs.length:=by simp
 have hk6:KeysAre prog w (((s.heap.update a (dA fun _=>#[])).push (eS "tuple" vs.toArray 0)).push (eS "list" #[] 0)) vs bI:=hk.moved fun b o e c=>by
  refine bS _ (bS _ ?_);have:b≠a:=fun z=>by subst z;rw[ho]at e;cases e;exact absurd (aa.type.inj (show aa.type "list"=aa.type "tuple" from c)) (by decide)
  rw[lL _ _ _ _ this];exact e
 by_cases h2:vs.toArray.size < 2
 ·rw[if_pos h2,if_pos h2];refine ag (a_ ?_);rw[StateT.run_pure];refine ag (a_ ?_);dsimp only;refine ag (vE ho6 rfl ?_);refine ag (vy ho6 rfl ?_ (hsz2:=by rw[Array.size_map];show(pairsOf vs).size<=_;rw[pairsOf_size,eM];lia));simp only[bne_self_eq_false,cn,if_false];have hz:bI.length < 2:=by rw[hk.1,<- hsz];exact h2
  have hq:=h (kB (cz bI.length)) (GR hz);have e:(ay (rL general' (vs.toArray.zip vs.toArray) #[] 7 none)).map (·.2)=kB ((kB (cz bI.length)).toList.map fun i=>vs.getD i aa.none):=by rw[hk.1];show(vs.toArray.zip vs.toArray).map (·.2)=_;apply vn.mp;apply vF;intro i;simp;by_cases hi:i < vs.length <;> simp[hi]
  exact a_ (by rw[e];exact hq)
 ·rw[if_neg h2,if_neg h2];obtain⟨fs,ht,hl,hfi⟩:=hk6.tups hne;have h2':2<=vs.length:=by rw[<- hsz];lia
  refine ag (kat_kind (T:=.type "int") ht (by lia) (fun v hv=>?_) rfl ?_)
  ·obtain⟨i,t,rfl⟩:=hfi v hv;exact gm.now
  ·refine ag (dS (Sb.UL (E:=E) (Q:=fun st' s'=>s'={ s with heap:=((s.heap.update a (dA fun _=>#[])).push (eS "tuple" vs.toArray 0)).push (eS "list" #[] 0) }/\JL (fun i j=>jk (bI.getD i []) (bI.getD j [])) vs st') (acU bI) h2' hk6.asks hk6.det fun st' hs=>⟨rfl,hs⟩) ?_ fun _ _ e=>e);rintro⟨⟨⟩,st'⟩ s' ⟨rfl,p,a1,a2,a3,hf⟩;dsimp only at a3 hf ⊢;refine ag (vE ho6 rfl ?_);rw[a3];refine ag (vy ho6 rfl ?_ (hsz2:=by simp only[cE,cx,kS,a1.sz];rw[eM];lia));rw[hf];simp only[bne_self_eq_false,cn,if_false];rw[<- hk.1]at a1 a2;exact a_ (h p (Ul a1 a2))
end
end So
namespace So
open PySem PySem.Spec PySem.W PyProof.Rows PySem.Calls PySem.SetTable Tb
section
variable{prog:aE}{w:az}{A:aI}{E:aa->af->Prop}{s:af}{U:ae->List Int->Prop}
noncomputable def agW(prog:aE)(w:az)(U:ae->List Int->Prop)(o:Obj)(bI:LL):Prop :=
 ∃(L:List qg) (ep:Nat) (t:eA) (f:Int×aa->List Int),o=Uj L ep t/\Good t L/\L.length * 5 < t.mask * 3/\t.mask < 8192/\(t.plain=true/\t.led=!byT w)/\(∀e∈L,∃b,e.2.2=.ref b/\e.2.1=hK prog w (f e.2)/\U b (f e.2))/\(L.map fun e=>f e.2).Perm bI/\bI.Nodup
noncomputable def UW(U:ae->List Int->Prop)(out:List aa)(bI:LL):Prop:=out.length=bI.length/\∀(i:Nat) v,out[i]?=some v->∃b,v=.ref b/\U b (bI.getD i [])
theorem Ak{l l':LL}(p:l.Perm l'):cR l=cR l':=zc ((gq l).trans p) (uq l)
theorem zF{vs:List aa}{bI Eb:LL}{p:Array Nat}(ho:UW U vs Eb)(hp:GQ Eb p)(pm:Eb.Perm bI):UW U (p.toList.map fun i=>vs.getD i aa.none) (cR bI):=by
 rw[<- Ak pm,<- hp.2];refine⟨by simp,fun i v hv=>?_⟩;rw[cK]at hv;cases e:p.toList[i]? with
 |none=>rw[e]at hv;cases hv
 |some j =>
  rw[e]at hv;simp at hv;have hj:j < Eb.length:=by have:j∈cz Eb.length:=hp.1.mem_iff.mp (mv e);simpa using this
  have hj':j < vs.length:=by rw[ho.1];exact hj
  obtain⟨b,q1,q2⟩:=ho.2 j vs[j] (du hj');refine⟨b,?_,?_⟩
  ·rw[<- hv];simp[hj',q1]
  ·have:((p.toList.map fun i=>Eb.getD i []).getD i [])=Eb.getD j []:=by rw[f6,cK,e];rfl
   rw[this];exact q2
theorem BR{x:aa}{vs:List aa}{bI:LL}{Q:aa->af->Prop}
  (ahT:∀(Q':List aa->af->Prop) (E':aa->af->Prop),(∀h' tk,(∀b o,s.heap.get? b=some o->h'.get? b=some o)->s.heap.objs.size<=h'.objs.size->Q' vs { s with heap:=h',toks:=tk })->ar (ax prog w) A.in1 (collect x) Q' E' s)
  (hk:KeysAre prog w s.heap vs bI) (hne:∀ks∈bI,ks≠[]) (h64:vs.length < 4900)
  (h:∀h' tk l n p,(∀b o,s.heap.get? b=some o->h'.get? b=some o)->s.heap.objs.size<=l->GQ bI p->h'.get? l=some (eS "list" (kB (p.toList.map fun i=>vs.getD i aa.none)) n)->Q (.ref l) { s with heap:=h',toks:=tk }) :
  ar (ax prog w) A (call (.builtin "sorted") [x]) Q E s:=by
 refine Calls.call_function_entry kind_sorted plain_sorted entry_sorted (args_sorted1 _) ?_;unfold Builtin.«sorted»;refine ag (m:=checkCount "sorted" 1 1 _) (a_ ?_);refine ag (ahT _ _ fun h1 tk k1 z1=>?_);refine ag (wpAny_newList ?_ (by rw[eM];lia));have hoL:(h1.push (eS "list" vs.toArray 0)).get? h1.objs.size=some (eS "list" vs.toArray 0):=cy _ rfl;have k2:∀b o,s.heap.get? b=some o->(h1.push (eS "list" vs.toArray 0)).get? b=some o:=fun b o e=>bS _ (k1 b o e);show ar _ _ _ _ _ { s with heap:=h1.push (eS "list" vs.toArray 0),toks:=tk };refine ag (e_ (ic slot_list_sort ⟨_,hoL,rfl⟩ entry_list_sort (zE hoL (hk.moved fun b o e _=>k2 b o e) hne h64 fun p hp=>⟨_,rfl,?_⟩) (args_list_sort _)));refine a_ ⟨_,rfl,?_⟩;unfold sortedHeap;have ne1:∀b o,s.heap.get? b=some o->b≠h1.objs.size:=fun b o e=>ck (dm (bE e) z1);have g0:=bS (eS "list" #[] 0) (bS (eS "tuple" vs.toArray 0) (vz hoL (fun _=>#[])));refine h _ _ _ _ p (fun b o e=>?_) z1 hp (vz g0 (fun _=>kB (p.toList.map fun i=>vs.getD i aa.none)));rw[lL _ _ _ _ (ne1 b o e)];refine bS _ (bS _ ?_);rw[lL _ _ _ _ (ne1 b o e)];exact k2 b o e
end
end So
namespace Vl
open PySem PySem.Spec L2 So Tb
section
variable{X:Cx}{B:Bs}{W:Wi}
theorem JT{pins:List (ae×Obj)}{σ:St}{H:Hp}{s:af}{b:ae}{ks:List Int}(I:Inv X pins σ H s)(h:jT X.K H b (ks.map V.int)):iA (de X.prog X.w) s.heap ks b:=by
 obtain⟨its,r,⟨o,ho,hc,n,hd⟩,hz⟩:=I.tuple h;refine⟨o,its.toArray,n,ho,hc,hd,?_⟩;show ItemsAre _ ks its;clear hd h hz
 induction ks generalizing its with
 |nil=>cases r;exact .nil
 |cons k ks ih =>
  cases r with
  |cons r1 r2 =>
   obtain⟨t,rfl⟩:=r1;exact .cons (intKind_is X.prog X.w k t) (ih _ r2)
theorem Vals.get'{xs:List V}{us:List aa}(r:Vals xs us){i:Nat}{u:aa}(h:us[i]?=some u):∃x,xs[i]?=some x/\RelV x u:=by
 cases e:xs[i]? with
 |none=>have:=r.none_of e;rw[this]at h;cases h
 |some x=>obtain⟨u',h1,h2⟩:=r.get e;rw[h]at h1;cases h1;exact⟨x,rfl,h2⟩
noncomputable def jt:List D->Option (List Int)
 | []=>some []
 | .int i::ds=>(jt ds).map (i::·)
 |_=>none
noncomputable def jH:List D->Option LL
 | []=>some []
 | .tup ds::es=>match jt ds with|some k=>(jH es).map (k::·)|none=>none
 |_=>none
noncomputable def aj(ks:List Int):D:=.tup (ks.map .int)
theorem Qo(ks:List Int):jt (ks.map .int)=some ks:=by
 induction ks with
 |nil=>rfl
 |cons k ks ih=>simp[jt,ih]
theorem zG:∀{ds:List D}{ks:List Int},jt ds=some ks->ds=ks.map .int
 | [],ks,h=>by simp[jt]at h;subst h;rfl
 | .int i::ds,ks,h=>by
  simp only[jt]at h;cases e:jt ds with
  |none=>rw[e]at h;cases h
  |some k=>rw[e]at h;simp at h;subst h;rw[zG e];rfl
 | .non::ds,ks,h=>by simp[jt]at h
 | .bl _::ds,ks,h=>by simp[jt]at h
 | .str _::ds,ks,h=>by simp[jt]at h
 | .tup _::ds,ks,h=>by simp[jt]at h
 | .lst _::ds,ks,h=>by simp[jt]at h
 | .su _ _::ds,ks,h=>by simp[jt]at h
 | .sy _ _::ds,ks,h=>by simp[jt]at h
 | .fn _::ds,ks,h=>by simp[jt]at h
 | .obj _ _ _::ds,ks,h=>by simp[jt]at h
theorem BW(bI:LL):jH (bI.map aj)=some bI:=by
 induction bI with
 |nil=>rfl
 |cons k bI ih=>simp[jH,aj,Qo]at ih ⊢;exact ih
theorem zH:∀{ds:List D}{bI:LL},jH ds=some bI->ds=bI.map aj
 | [],ks,h=>by simp[jH]at h;subst h;rfl
 | .tup es::ds,ks,h=>by
  simp only[jH]at h;cases e:jt es with
  |none=>rw[e]at h;cases h
  |some k =>
   rw[e]at h;cases e2:jH ds with
   |none=>rw[e2]at h;cases h
   |some k2=>rw[e2]at h;simp at h;subst h;rw[zH e2,zG e];rfl
 | .int i::ds,ks,h=>by simp[jH]at h
 | .non::ds,ks,h=>by simp[jH]at h
 | .bl _::ds,ks,h=>by simp[jH]at h
 | .str _::ds,ks,h=>by simp[jH]at h
 | .lst _::ds,ks,h=>by simp[jH]at h
 | .su _ _::ds,ks,h=>by simp[jH]at h
 | .sy _ _::ds,ks,h=>by simp[jH]at h
 | .fn _::ds,ks,h=>by simp[jH]at h
 | .obj _ _ _::ds,ks,h=>by simp[jH]at h
theorem pH{K:ai}{G:Hp}:∀{ks:List Int}{vs:List V},bF K G (ks.map .int) vs->vs=ks.map V.int
 | [],vs,r=>bf.mp r
 |k::ks,vs,r=>by obtain⟨v,vs',rfl,r1,r2⟩:=aO.mp r;rw[bA.mp r1,pH r2];rfl
theorem zJ{K:ai}{G:Hp}{ks:List Int}{v:V}:Rep K G (aj ks) v↔∃b,v=.ref b/\UG K G b ks:=by
 unfold aj UG;constructor
 ·intro h;obtain⟨a,vs,rfl,q,r⟩:=bR.mp h;rw[pH r]at q;exact⟨a,rfl,q⟩
 ·rintro⟨b,rfl,q⟩;exact bR.mpr ⟨b,_,rfl,q,uV ks⟩
theorem BX{K:ai}{G:Hp}{bI:LL}{vs:List V}(r:bF K G (bI.map aj) vs):bI.length=vs.length/\∀(i:Nat) v,vs[i]?=some v->∃b,v=.ref b/\UG K G b (bI.getD i []):=by
 refine⟨by have:=r.length;simpa using this,fun i v hv=>?_⟩;obtain⟨d,h1,h2⟩:=r.get' hv;rw[cK]at h1;cases e:bI[i]? with
 |none=>rw[e]at h1;cases h1
 |some ks =>
  rw[e]at h1;cases h1;obtain⟨b,q1,q2⟩:=zJ.mp h2;exact⟨b,q1,by rw[f6,e];exact q2⟩
theorem rC{K:ai}{G:Hp}:∀{bI:LL}{vs:List V},vs.length=bI.length->(∀(i:Nat) v,vs[i]?=some v->∃b,v=.ref b/\UG K G b (bI.getD i []))->bF K G (bI.map aj) vs
 | [],vs,h,_=>bf.mpr (rS.mp h)
 |k::bI,[],h,_=>by cases h
 |k::bI,v::vs,h,a=>by refine aO.mpr ⟨v,vs,rfl,zJ.mpr (a 0 v rfl),rC (by simpa using h) fun i u hu=>?_⟩;exact a (i + 1) u hu
instance (bI:LL):Decidable (∀ks∈bI,ks≠[]):=inferInstance
end
section
variable{X:Cx}{B:Bs}{W:Wi}
noncomputable def COr(a b:LL):Prop:=a.length + b.length < 900
noncomputable def afA(a b:LL):Prop:=a.length < 900/\b.length < 900
noncomputable def afB(a b:LL):Prop:=a.length < 900/\b.length < 900/\(b=[]∨¬a.length / 4 > b.length)
instance (a b:LL):Decidable (COr a b):=by unfold COr;exact inferInstance
instance (a b:LL):Decidable (afA a b):=by unfold afA;exact inferInstance
instance (a b:LL):Decidable (afB a b):=by unfold afB;exact inferInstance
end
end Vl
namespace Vl
open PySem PySem.Spec L2
noncomputable def Va(i:Nat)(fs:aH->Rs (List D)):aH->Ou:=fun ρ=>oR (fs ρ) ρ fun ds=>if ds.length<=1000 then .nx (ρ.set i (.ow ds)) else .no
noncomputable def JV(i:Nat)(f:aH->Rs D):aH->Ou:=fun ρ=>match ρ[i]? with|some (.ow ds)=>oR (f ρ) ρ fun d=>if ds.length < 1000000 then .nx (ρ.set i (.ow (ds++[d]))) else .no|_=>.no
noncomputable def Vb(i:Nat)(g:aH->Ou):aH->Ou:=fun ρ=>g (yt i ρ)
section
variable{X:Cx}{K:ai}{B:Bs}{W:Wi}{σ:St}{G H:Hp}{ρ:aH}
theorem acZ(i:Nat){x:Str}{es:List ah}{pos pos' lp:Pos}{f:aH->Rs (List D)}(hN:X.N.Nodup)(he:SA X B W es f)(hi:X.N[i]?=some x:=by rfl)(hx:FT X.env.scope x:=by first|exact Or.inl rfl|exact Or.inr rfl)(hs:eW (.List es lp) (some (.Name x pos')) pos.line X.env=pure false:=by rfl)(hf:X.fn x=true∨X.env.scope.names.lookup x=some .local:=by first|exact .inl rfl|exact .inr rfl|assumption) :
  SS X B W (.Assign [.Name x pos'] (.List es lp) pos) (Va i f):=acv hN hi hx he hs hf
theorem ada(i:Nat){x:Str}{e:ah}{pos p1 p2 cp:Pos}{f:aH->Rs D}(he:SE X B W e f)(hN:X.N[i]?=some x:=by rfl)(hv:Ri X.env.scope x:=by first|exact Or.inl rfl|exact Or.inr (Or.inl rfl)|exact Or.inr (Or.inr rfl))(hd:uN x:=by decide)
  (hcd:Rq x:=by decide) (hst:bg [e] X.env=[(false,aS e X.env)]:=by rfl)
  (hbase:mE (.Name x p1) "append" X.env (aS (.Name x p1) X.env)=aS (.Name x p1) X.env:=by rfl)
  (hfew:((dt cp (bg [e] X.env)).all (fun x=>!x.1) && (j5 cp (j6 [] X.env)).all (fun x=>x.1.isSome)
   && decide (([e]:List ah).length + ([]:List kX).length + (if ([]:List kX).isEmpty then 0 else 1) < 30))=true:=by rfl)
  (hline:(p2.endLine == cp.line)=true:=by rfl) (hplain:(dt cp (bg [] X.env)).any (·.1)=false:=by rfl)
  (hs:eW (.Call (.Attribute (.Name x p1) "append" p2) [e] [] cp) none pos.line X.env=pure false:=by rfl) :
  SS X B W (.Expr (.Call (.Attribute (.Name x p1) "append" p2) [e] [] cp) pos) (JV i f) :=
 Qa (pe:=aaN PySem.F.plainAttrs_list PySem.F.slot_list_append PySem.F.type_list_append uU (nW hN hv hd hcd) (eN he jJ hst) hbase hfew hline hst hplain) (nW hN hv hd hcd) he hst hs
theorem adb(i:Nat){st:List bj}{g:aH->Ou}(h:rA X B W st g):rA X B W st (Vb i g):=YJ i h
theorem ux{e:ah}{p pos:Pos}{fa:aH->Rs D}(hm:X.mg "tuple"=none) (ha:SE X B W e fa) (hg:Gl X "tuple":=by rfl) (he:bg [e] X.env=[(false,aS e X.env)]:=by rfl):SE X B W (.Call (.Name "tuple" p) [e] [] pos) (fA (ak fa aZ) mC) :=
 PN Ag Sy hg hm PyProof.Rows.boot_tuple (aq ha aQ he) (by decide) (by decide) he rfl
noncomputable def Vc:List D->Rs D
 | [.lst ds]=>.ok (.lst ds)
 | [.tup ds]=>.ok (.lst ds)
 |_=>.no
noncomputable def afC:List D->Rs D
 | [.int i]=>.ok (.int i)
 | [.bl b]=>.ok (.int (if b then 1 else 0))
 |_=>.no
noncomputable def sJ:D->Bool
 | .non=>true
 |_=>false
noncomputable def JW:D->D->Rs D:=fun x y=>match y with|.non=>.ok (.bl (sJ x))|_=>.no
noncomputable def afD:D->D->Rs D:=fun x y=>match y with|.non=>.ok (.bl (!sJ x))|_=>.no
theorem Qp{x:D}{v:V}(r:Rep K G x v):decide (v=.non)=sJ x:=by
 cases x with
 |non=>rw[lJ.mp r];rfl
 |bl b=>rw[cJ.mp r];rfl
 |int b=>rw[bA.mp r];rfl
 |str b=>rw[pB.mp r];rfl
 |tup b=>obtain⟨a,vs,rfl,_⟩:=bR.mp r;rfl
 |lst b=>obtain⟨a,vs,rfl,_⟩:=bJ.mp r;rfl
 |su c n=>obtain⟨a,vs,_,rfl,_⟩:=qZ.mp r;rfl
 |sy c n=>obtain⟨a,U,bw,rfl,_⟩:=rm.mp r;rfl
 |fn c=>obtain⟨a,_,_,rfl,_⟩:=Jw.mp r;rfl
 |obj c n ds=>obtain⟨a,_,_,_,rfl,_⟩:=CT.mp r;rfl
theorem Ny:Ms K (fun x y H Q=>y=.non/\Q (.bl (decide (x=.non))) H) JW:=by
 intro B W σ ρ G H x y v u Q s rx ry p;unfold JW at p;split at p
 ·refine⟨lJ.mp ry,?_⟩;rw[Qp rx];exact Post.ok s p (cJ.mpr rfl)
 ·exact p.elim
variable{a b:ah}{pos:Pos}{fa fb:aH->Rs D}
theorem ade(ha:SE X B W a fa)(hb:SE X B W b fb)(hm:i3 .Is b=false:=by rfl):SE X B W (.Compare a [.Is] [b] pos) (bH JW fa fb):=Jy RJ Ny ha hb hm
theorem adf(ha:SE X B W a fa)(hb:SE X B W b fb)(hm:i3 .Is b=false:=by rfl):ST X B W (.Compare a [.Is] [b] pos) (fT (bH JW fa fb)):=sU RJ Ny ha hb hm
end
end Vl
namespace Vl
open PySem PySem.Spec L2 So Tb
section
variable{X:Cx}{B:Bs}{W:Wi}{K:ai}
noncomputable def Vd(K:ai):List V->Hp->VK->Prop:=fun xs H Q=>∃(p:ae) (ys:List V) (bI:LL) (U:ae->List Int->Prop),xs=[.ref p]/\pU K H p ys/\bI.length=ys.length/\ys.length < 4900/\(∀ks∈bI,ks≠[]) /\
 (∀(i:Nat) v,ys[i]?=some v->∃b,v=.ref b/\jT K H b ((bI.getD i []).map V.int)/\U b (bI.getD i [])) /\
 ∀l zs,H l=none->zs.length=(cR bI).length->(∀(i:Nat) v,zs[i]?=some v->∃b,v=.ref b/\U b ((cR bI).getD i []))->Q (.ref l) (upd H l (.lst zs))
theorem Ve{U:ae->List Int->Prop}{out:List aa}{bI:LL}(ho:UW U out bI):∃ys:List V,Vals ys out/\ys.length=bI.length/\∀(i:Nat) v,ys[i]?=some v->∃b,v=.ref b/\U b (bI.getD i []):=by
 refine⟨out.map fun v=>match v with|.ref b=>V.ref b|_=>V.non,?_,by simp[ho.1],fun i v hv=>?_⟩
 ·have:∀v∈out,∃b,v=aa.ref b:=fun v hv=>by obtain⟨i,hi⟩:=ny.mp hv;obtain⟨b,e,_⟩:=ho.2 i v hi;exact⟨b,e⟩
  clear ho
  induction out with
  |nil=>exact .nil
  |cons a out ih =>
   obtain⟨b,rfl⟩:=this a (.head _);exact .cons rfl (ih fun v hv=>this v (.tail _ hv))
 ·rw[cK]at hv;cases e:out[i]? with
  |none=>rw[e]at hv;cases hv
  |some v' =>
   rw[e]at hv;obtain⟨b,rfl,h2⟩:=ho.2 i v' e;exact⟨b,(dk hv).symm,h2⟩
theorem JX:gj X (.builtin "sorted") (Vd X.K):=by
 intro pins s σ H xs us Q I r h;obtain⟨p,ys,bI,U,rfl,hs,hlen,hz,hne,hk,q⟩:=h;obtain⟨u,rfl,rx⟩:=r.one;cases rx;obtain⟨its,rv,pl,_⟩:=I.list hs;have hl:=rv.length;have each:∀(i:Nat) v,its[i]?=some v->∃b,v=.ref b/\iA (de X.prog X.w) s.heap (bI.getD i []) b/\U b (bI.getD i []):=fun i v hv=>by obtain⟨x,h1,h2⟩:=Vals.get' rv hv;obtain⟨b,rfl,h3,h4⟩:=hk i x h1;exact⟨b,h2,JT I h3,h4⟩
 refine So.BR (vs:=its) (bI:=bI) (fun Q' E' hq=>?_) ⟨by lia,fun i v hv=>let ⟨b,h1,h2,_⟩:=each i v hv;⟨b,h1,h2⟩⟩ hne (by lia) fun h' tk l n p' k hl' hsp hg=>?_
 ·refine PyProof.Rows.collect_list pl.isList ?_ (by rw[eM];lia);refine hq _ s.toks (fun b o e=>?_) ?_
  ·rw[lL _ _ _ _ (ck (bE e))];exact bS _ e
  ·rw[rX,PyProof.Rows.size_push'];exact r0 _
 ·have ho:=zF (U:=U) (vs:=its) (bI:=bI) (Eb:=bI) ⟨by lia,fun i v hv=>let ⟨b,h1,_,h3⟩:=each i v hv;⟨b,h1,h3⟩⟩ hsp (.refl _);obtain⟨zs,r1,zl,zv⟩:=Ve ho;have Qq:H l=none:=I.hok.fresh hl';refine⟨.ref l,_,I.laid (t':=tk) k hl' (show dW X.prog X.w _ h' _ (.lst zs) from⟨?_,_,n,r1,hg⟩),rfl,q l zs Qq zl zv⟩;have:(cR bI).length=bI.length:=(gq bI).length_eq;rw[zl,this,eM];lia
noncomputable def JZ(x:Int):List Int->List Int
 | []=>[x]
 |y::ys=>if y < x then y::JZ x ys else x::y::ys
noncomputable def uy(l:List Int):List Int:=l.foldr JZ []
theorem vo(x:Int):∀l,(JZ x l).Perm (x::l)
 | []=>.refl _
 |y::ys=>by
  unfold JZ;split
  ·exact((vo x ys).cons y).trans (nc.swap x y ys)
  ·exact .refl _
theorem tu:∀l,(uy l).Perm l
 | []=>.refl _
 |x::l=>(vo x (uy l)).trans ((tu l).cons x)
theorem Nz(x:Int):∀l,l.Pairwise (·<=·)->(JZ x l).Pairwise (·<=·)
 | [],_=>by simp[JZ]
 |y::ys,h=>by
  obtain⟨h1,h2⟩:=gL.mp h;unfold JZ;split
  ·rename_i c;refine gL.mpr ⟨fun z hz=>?_,Nz x ys h2⟩;rcases bP.mp ((vo x ys).mem_iff.mp hz) with rfl|hz
   ·lia
   ·exact h1 z hz
  ·rename_i c;refine gL.mpr ⟨fun z hz=>?_,h⟩;rcases bP.mp hz with rfl|hz
   ·lia
   ·have:=h1 z hz;lia
theorem Hv:∀l,(uy l).Pairwise (·<=·)
 | []=>.nil
 |x::l=>Nz x _ (Hv l)
theorem zK:∀{l l':List Int},l.Perm l'->l.Pairwise (·<=·)->l'.Pairwise (·<=·)->l=l'
 | [],l',p,_,_=>(List.nil_perm.mp p).symm
 |x::l,[],p,_,_=>by cases List.perm_nil.mp p
 |x::l,y::l',p,h,h'=>by
  obtain⟨h1,h2⟩:=gL.mp h;obtain⟨h1',h2'⟩:=gL.mp h';have e:x=y:=by
   have m1:=bP.mp (p.mem_iff.mp (dC (a:=x) (l:=l)));have m2:=bP.mp (p.mem_iff.mpr (dC (a:=y) (l:=l')));rcases m1 with m1|m1
   ·exact m1
   ·rcases m2 with m2|m2
    ·exact m2.symm
    ·have:=h1' x m1;have:=h1 y m2;lia
  subst e;rw[zK (p.cons_inv) h2 h2']
theorem Vf{l l':List Int}(p:l.Perm l')(h:l.Pairwise (·<=·)):l=uy l':=zK (p.trans (tu l').symm) h (Hv l')
theorem qY:∀{us:List aa}{ns:List Int},PyProof.Rows.IntsAre us ns->Vals (ns.map V.int) us:=by
 intro us ns h
 induction h with
 |nil=>exact .nil
 |cons n t _ ih=>exact .cons ⟨t,rfl⟩ ih
noncomputable def Vg(K:ai):List V->Hp->VK->Prop:=fun xs H Q=>∃(p:ae) (ns:List Int),xs=[.ref p]/\pU K H p (ns.map V.int)/\ns.length < 64/\∀l,H l=none->Q (.ref l) (upd H l (.lst ((uy ns).map V.int)))
theorem Ka:gj X (.builtin "sorted") (Vg X.K):=by
 intro pins s σ H xs us Q I r h;obtain⟨p,ns,rfl,hs,hz,q⟩:=h;obtain⟨u,rfl,rx⟩:=r.one;cases rx;obtain⟨its,rv,pl,_⟩:=I.list hs;have hl:=rv.length;simp only[cx]at hl;refine PyProof.Rows.sorted_ints pl.isList (Ju rv) (by lia) fun out ns' h1 h2 h3=>?_;have e:ns'=uy ns:=Vf h2 h3;subst e;have hsz:((s.heap.push (kC "list" #[] 0)).update s.heap.objs.size (dA (·++its.toArray))).objs.size=s.heap.objs.size + 1:=by rw[rX,PyProof.Rows.size_push']
 have hoL:(((s.heap.push (kC "list" #[] 0)).update s.heap.objs.size (dA (·++its.toArray))).push (kC "list" its.toArray 0)).get? (s.heap.objs.size + 1)=some (kC "list" its.toArray 0):=by rw[<- hsz];exact cy _ rfl
 have keep:∀b o,s.heap.get? b=some o->(((s.heap.push (kC "list" #[] 0)).update s.heap.objs.size (dA (·++its.toArray))).push (kC "list" its.toArray 0)).get? b=some o:=fun b o q=>by refine bS _ ?_;rw[lL _ _ _ _ (ck (bE q))];exact bS _ q
 have g0:=bS (kC "list" #[] 0) (bS (kC "tuple" its.toArray 0) (PyProof.Rows.get?_update_seq hoL (fun _=>#[])));have g1:=PyProof.Rows.get?_update_seq g0 (fun _=>out);have Qq:H (s.heap.objs.size + 1)=none:=I.hok.fresh (r0 _);refine⟨.ref (s.heap.objs.size + 1),_,I.laid (t':=s.toks) (fun b o z=>?_) (r0 _) (show dW X.prog X.w _ _ _ (.lst ((uy ns).map V.int)) from⟨?_,out.toList,_,qY h1,by rw[Array.toArray_toList];exact g1⟩),rfl,q _ Qq⟩
 ·unfold PyProof.Rows.sortedAll PyProof.Rows.sortedHeap;have ne:b≠s.heap.objs.size + 1:=ck (j8 (bE z));rw[lL _ _ _ _ ne];refine bS _ (bS _ ?_);rw[lL _ _ _ _ ne];exact keep b o z
 ·rw[cx,(tu ns).length_eq,eM];lia
noncomputable def vp:List D->Rs D
 | [.lst ds]=>match jH ds with
  |some bI=>if (∀ks∈bI,ks≠[])/\bI.length < 4900 then .ok (.lst ((cR bI).map aj)) else .no
  |none=>match jt ds with
   |some ns=>if ns.length < 64 then .ok (.lst ((uy ns).map .int)) else .no
   |none=>.no
 |_=>.no
theorem Vh:qm K (fun xs H Q=>Vd K xs H Q∨Vg K xs H Q) vp:=by
 intro B W σ ρ G H ds vs Q s r p;unfold vp at p;split at p
 ·rename_i ds;obtain⟨v,vs',rfl,r1,r2⟩:=aO.mp r;obtain⟨a,us,rfl,q,rr⟩:=bJ.mp r1;rw[bf.mp r2];split at p
  ·rename_i bI ek;split at p
   ·rename_i hc;rw[zH ek]at rr;obtain⟨hl,hk⟩:=BX rr;refine .inl ⟨a,us,bI,UG K G,rfl,s.en.gh.seq q,hl,by lia,hc.1,fun i v hv=>?_,fun l zs hl' hz hv=>?_⟩
    ·obtain⟨b,q1,q2⟩:=hk i v hv;exact⟨b,q1,Same.cV s.en.gh q2,q2⟩
    ·have x:=pC (xs:=zs) s.en.gh s.en.tp hl';exact p _ _ _ x (bJ.mpr ⟨l,zs,rfl,.of aW,(rC hz hv).mono x.gg⟩)
   ·exact p.elim
  ·split at p
   ·rename_i ns ei;split at p
    ·rename_i hc;rw[zG ei]at rr;have eu:=pH rr;subst eu;refine .inr ⟨a,ns,rfl,s.en.gh.seq q,hc,fun l hl=>?_⟩;have x:=pC (xs:=(uy ns).map V.int) s.en.gh s.en.tp hl;exact p _ _ _ x (bJ.mpr ⟨l,_,rfl,.of aW,uV _⟩)
    ·exact p.elim
   ·exact p.elim
 ·exact p.elim
theorem gj.or{f:aa}{r r':List V->Hp->VK->Prop}(h:gj X f r)(h':gj X f r'):gj X f (fun xs H Q=>r xs H Q∨r' xs H Q):=fun pins s σ H xs us Q I rv q=>q.elim (h pins s σ H xs us Q I rv) (h' pins s σ H xs us Q I rv)
theorem Vi{e:ah}{p pos:Pos}{fa:aH->Rs D}(hm:X.mg "sorted"=none) (ha:SE X B W e fa) (hg:Gl X "sorted":=by rfl) (he:bg [e] X.env=[(false,aS e X.env)]:=by rfl):SE X B W (.Call (.Name "sorted" p) [e] [] pos) (fA (ak fa aZ) vp) :=
 mz (gj.or JX Ka) Vh hg hm PyProof.Rows.boot_sorted (aq ha aQ he) (by decide) (by decide) he rfl
end
end Vl
namespace Vl
open PySem PySem.Spec L2
section
variable{X:Cx}{B:Bs}{W:Wi}{K:ai}
end
theorem Zw(i:Nat){X:Cx}{B:Bs}{W:Wi}{y:Str}{py spos:Pos}{tg iter:ah}{elt:ah}{sc:Scope}{pos:Pos}{N:List Str}{nt:Nat}{caps:List Nat}{h:Tg}{fe:aH->Rs D}{fi:aH->Rs (List D)}(hN:X.N.Nodup)
  (c:rR X sc N nt caps) (hc:X.calm=true) (hnames:sc.names.all (fun y=>y.2 != .local || sc.names.lookup y.1 == some .local)=true) (hi:SI X B W tg iter fi) (hno:nZ h)
  (ht:∀s₀ H₀ C ex pins B',SG (fW X N s₀ H₀ sc (dF sc X.env) C ex pins) B' tg h)
  (he:∀s₀ H₀ C ex pins B',SE (fW X N s₀ H₀ sc (dF sc X.env) C ex pins) B' WF elt fe)
  (hs:∀x,gc iter X.env x=pure x:=by intro _;rfl) (hi':X.N[i]?=some y:=by rfl) (hx:FT X.env.scope y:=by first|exact Or.inl rfl|exact Or.inr rfl)
  (hsw:eW (.ListComp elt [⟨tg,iter,[],0⟩] sc pos) (some (.Name y py)) spos.line X.env=pure true:=by rfl)
  (hf:X.fn y=true∨X.env.scope.names.lookup y=some .local:=by first|exact .inl rfl|exact .inr rfl|assumption) :
  SS X B W (.Assign [.Name y py] (.ListComp elt [⟨tg,iter,[],0⟩] sc pos) spos) (gQ i (dZ h (fun _=>.ok true) fe nt caps fi)) :=
 yQ hN hi' hx c hc (fun y hy hl=>by
  have:=kz.mp hnames y hy;simp only[kA,bne_iff_ne,beq_iff_eq,ne_eq]at this;exact this.elim (fun z=>absurd hl z) id) hi hno ht (.inl ⟨rfl,rfl⟩) he hs hsw hf
theorem rD(i:Nat){X:Cx}{B:Bs}{W:Wi}{y:Str}{py spos:Pos}{tg iter:ah}{elt cnd:ah}{sc:Scope}{pos:Pos}{N:List Str}{nt:Nat}{caps:List Nat}{h:Tg}{ft:aH->Rs Bool}{fe:aH->Rs D}{fi:aH->Rs (List D)}(hN:X.N.Nodup)
  (c:rR X sc N nt caps) (hc:X.calm=true) (hnames:sc.names.all (fun y=>y.2 != .local || sc.names.lookup y.1 == some .local)=true) (hi:SI X B W tg iter fi) (hno:nZ h)
  (ht:∀s₀ H₀ C ex pins B',SG (fW X N s₀ H₀ sc (dF sc X.env) C ex pins) B' tg h)
  (hif:∀s₀ H₀ C ex pins B',ST (fW X N s₀ H₀ sc (dF sc X.env) C ex pins) B' WF cnd ft)
  (he:∀s₀ H₀ C ex pins B',SE (fW X N s₀ H₀ sc (dF sc X.env) C ex pins) B' WF elt fe)
  (hs:∀x,gc iter X.env x=pure x:=by intro _;rfl) (hi':X.N[i]?=some y:=by rfl) (hx:FT X.env.scope y:=by first|exact Or.inl rfl|exact Or.inr rfl)
  (hsw:eW (.ListComp elt [⟨tg,iter,[cnd],0⟩] sc pos) (some (.Name y py)) spos.line X.env=pure true:=by rfl)
  (hf:X.fn y=true∨X.env.scope.names.lookup y=some .local:=by first|exact .inl rfl|exact .inr rfl|assumption) :
  SS X B W (.Assign [.Name y py] (.ListComp elt [⟨tg,iter,[cnd],0⟩] sc pos) spos) (gQ i (dZ h ft fe nt caps fi)) :=
 yQ hN hi' hx c hc (fun y hy hl=>by
  have:=kz.mp hnames y hy;simp only[kA,bne_iff_ne,beq_iff_eq,ne_eq]at this;exact this.elim (fun z=>absurd hl z) id) hi hno ht (.inr ⟨cnd,rfl,hif⟩) he hs hsw hf
section
variable{X:Cx}{B:Bs}{W:Wi}{K:ai}{a b:ah}{pos:Pos}{fa fb:aH->Rs D}
end
section
variable{X:Cx}{B:Bs}{W:Wi}
theorem uz{pins:List (ae×Obj)}{σ:St}{H:Hp}{s:af}{b:ae}{ks:List Int}(I:Inv X pins σ H s)(h:jT X.K H b (ks.map V.int)):iA (de X.prog X.w) s.heap ks b:=by
 obtain⟨its,r,⟨o,ho,hc,n,hd⟩,hz⟩:=I.tuple h;refine⟨o,its.toArray,n,ho,hc,hd,?_⟩;show ItemsAre _ ks its;clear hd h hz
 induction ks generalizing its with
 |nil=>cases r;exact .nil
 |cons k ks ih =>
  cases r with
  |cons r1 r2 =>
   obtain⟨t,rfl⟩:=r1;exact .cons (intKind_is X.prog X.w k t) (ih _ r2)
noncomputable abbrev DP(U:ae->List Int->Prop):=Paired (fun(p:List Int×V) (q:List Int×ae×aa)=>p.1=q.1/\U q.2.1 q.1/\RelV p.2 q.2.2)
theorem zL{pins:List (ae×Obj)}{σ:St}{H:Hp}{s:af}{d:ae}{U:ae->List Int->Prop}{bw:List (List Int×V)}(I:Inv X pins σ H s)(hd:wj H d U bw)(hU:∀b ks,U b ks->UG X.K H b ks) :
  ∃xs,s.heap.DictOfH (pV (de X.prog X.w)) d xs/\(d == ij)=false/\DP U bw xs/\(xs.map (·.1)).Nodup:=by
 obtain⟨φ,hd,hφ⟩:=hd;obtain⟨o,es,ep,xs,h1,h2,h3,h4,h5,h6,h7⟩:=hφ _ (I.hok d _ hd).1;refine⟨xs,⟨o,es,ep,h1,h2,h3,h5,fun x hx=>?_,h6⟩,h4,h7,h6⟩;have:∀{bw:List (List Int×V)}{xs:List (List Int×ae×aa)},DP U bw xs->∀x∈xs,U x.2.1 x.1:=by
  intro bw xs r
  induction r with
  |nil=>intro x hx;cases hx
  |cons r1 _ ih =>
   intro x hx;rcases bP.mp hx with rfl|hx
   ·exact r1.2.1
   ·exact ih x hx
 exact uz I (hU _ _ (this h7 x hx))
noncomputable def mY(bw:List (List Int×V))(ks:List Int):Option V:=(bw.find? fun p=>decide (p.1=ks)).map (·.2)
noncomputable def Ec(bw:List (List Int×V))(ks:List Int)(v:V):List (List Int×V):=if (mY bw ks).isSome then bw.map (fun p=>if p.1=ks then (p.1,v) else p) else bw++[(ks,v)]
theorem qF{U:ae->List Int->Prop}{ks:List Int}:∀{bw:List (List Int×V)}{xs:List (List Int×ae×aa)},DP U bw xs->(mY bw ks=none/\atKey xs ks=none)∨∃v q,mY bw ks=some v/\atKey xs ks=some q/\RelV v q.2
 | [],_,.nil=>.inl ⟨rfl,rfl⟩
 |p::bw,q::xs,.cons r t=>by
  by_cases c:p.1=ks
  ·have c':q.1=ks:=r.1▸c;exact .inr ⟨p.2,q.2,by simp[mY,f9,c],by simp[atKey,f9,c'],r.2.2⟩
  ·have c':¬q.1=ks:=fun z=>c (r.1.trans z);have e1:mY (p::bw) ks=mY bw ks:=by simp[mY,f9,c]
   have e2:atKey (q::xs) ks=atKey xs ks:=by simp[atKey,f9,c']
   rw[e1,e2];exact qF t
theorem Paired.app{α β:Type}{F:α->β->Prop}:∀{l₁ l₁':List α}{l₂ l₂':List β},Paired F l₁ l₂->Paired F l₁' l₂'->Paired F (l₁++l₁') (l₂++l₂')
 |_,_,_,_,.nil,t'=>t'
 |_,_,_,_,.cons r t,t'=>.cons r (Paired.app t t')
theorem Vj{U:ae->List Int->Prop}{ks:List Int}{b:ae}{v:V}{u:aa}{bw:List (List Int×V)}{xs:List (List Int×ae×aa)}(r:DP U bw xs)(hb:U b ks)(rv:RelV v u):DP U (Ec bw ks v) (storedH xs ks b u):=by
 rcases qF (ks:=ks) r with ⟨e1,e2⟩|⟨v',q,e1,e2,_⟩
 ·unfold Ec storedH;rw[e1,e2];exact Paired.app r (.cons ⟨rfl,hb,rv⟩ .nil)
 ·unfold Ec storedH;rw[e1,e2];show DP U (bw.map _) (xs.map _);clear e1 e2
  induction r with
  |nil=>exact .nil
  |cons r1 _ ih =>
   refine .cons ?_ ih;rename_i p q' _ _ _;by_cases c:p.1=ks
   ·have c':q'.1=ks:=r1.1▸c;unfold putAt;dsimp only;rw[if_pos c,if_pos c'];exact⟨r1.1,r1.2.1,rv⟩
   ·have c':¬q'.1=ks:=fun z=>c (r1.1.trans z);unfold putAt;dsimp only;rw[if_neg c,if_neg c'];exact r1
noncomputable def NK(K:ai):R2:=fun x y H Q=>∃(b d:ae) (ks:List Int) (U:ae->List Int->Prop) (bw:List (List Int×V)),x=.ref b/\y=.ref d/\jT K H b (ks.map V.int)/\wj H d U bw/\(∀b ks,U b ks->UG K H b ks)/\Q (.bl (mY bw ks).isSome) H
theorem NP(hu:X.A.units + 1 < bX):tR X (gd .In) (NK X.K):=by
 intro pins s σ H x y v u Q I rx ry ⟨b,d,ks,U,bw,e1,e2,hb,hd,hU,q⟩;subst e1;subst e2;cases rx;cases ry;obtain⟨xs,hm,hs,hp,_⟩:=zL I hd hU;refine wpAny_in_heap (r8 hu) (uz I hb) hs hm ⟨_,H,I.tok _,?_,q⟩;rcases qF (ks:=ks) hp with ⟨e1,e2⟩|⟨v',q',e1,e2,_⟩
 ·rw[e1,e2];rfl
 ·rw[e1,e2];rfl
noncomputable def Vk(K:ai):R2:=fun x y H Q=>∃(b d:ae) (ks:List Int) (U:ae->List Int->Prop) (bw:List (List Int×V)) (v:V),x=.ref d/\y=.ref b/\jT K H b (ks.map V.int)/\wj H d U bw/\(∀b ks,U b ks->UG K H b ks)/\mY bw ks=some v/\Q v H
theorem Zx(hu:X.A.units + 1 < bX):tR X getItem (Vk X.K):=by
 intro pins s σ H x y v u Q I rx ry ⟨b,d,ks,U,bw,v',e1,e2,hb,hd,hU,hv,q⟩;subst e1;subst e2;cases rx;cases ry;obtain⟨xs,hm,hs,hp,_⟩:=zL I hd hU;rcases qF (ks:=ks) hp with ⟨e1,e2⟩|⟨v2,q',e1,e2,r2⟩
 ·rw[hv]at e1;cases e1
 ·rw[hv]at e1;cases e1;exact wpAny_getItem_heap (r8 hu) (uz I hb) hm e2 ⟨_,H,I.tok _,r2,q⟩
theorem NQ{U:ae->List Int->Prop}{P:aE}{w:az}{d:ae}{h':Heap}{xs:List (List Int×ae×aa)}{bw:List (List Int×V)}{H:Hp}(hm:h'.DictOfH (pV (de P w)) d xs)(hs:(d == ij)=false)(hp:DP U bw xs):dW P w H h' d (.ext (jZ U d bw)):=by obtain⟨o,es,ep,h1,h2,h3,h4,h5,h6⟩:=hm;refine⟨⟨o,es,ep,xs,h1,h2,h3,hs,h4,h6,hp⟩,⟨o,h1⟩,?_⟩;rintro g1 g2 ⟨o,es,ep,xs,h1,h2,h3,hs,h4,h6,hp⟩ k;exact⟨o,es,ep,xs,k _ h1,h2,h3,hs,h4,h6,hp⟩
end
section
variable{X:Cx}{B:Bs}{W:Wi}
theorem jZ.mono{U U':ae->List Int->Prop}{a:ae}{bw:List (List Int×V)}{xs:List (List Int×ae×aa)}(h:∀b ks,U b ks->U' b ks)(r:DP U bw xs):DP U' bw xs:=Paired.abu r fun p q z=>⟨z.1,h _ _ z.2.1,z.2.2⟩
noncomputable def afE(K:ai):Yj:=fun o i v H Q=>∃(b d:ae) (ks:List Int) (U U':ae->List Int->Prop) (bw:List (List Int×V)),o=.ref d/\i=.ref b/\jT K H b (ks.map V.int)/\H d=some (.ext (jZ U d bw))/\(∀b ks,U b ks->U' b ks)/\(∀b ks,U' b ks->UG K H b ks)/\U' b ks/\bw.length<=1000000 /\
 Q (upd H d (.ext (jZ U' d (Ec bw ks v))))
theorem Vm(hu:X.A.units + 1 < bX):aes X (afE X.K):=by
 intro pins s σ H o i v ov iv u Q I ro ri rv ⟨b,d,ks,U,U',bw,e1,e2,hb,hd,hm,hU,hk,hz,q⟩;subst e1;subst e2;cases ro;cases ri;obtain⟨xs,hx,hs,hp,_⟩:=zL I (Mq hd) fun b ks z=>hU b ks (hm b ks z);refine wpAny_setItem_heap (r8 hu) (uz I hb) hx (fun h' hx' sb=>?_) (by rw[<- Paired.length hp];exact sz6 hz);refine⟨_,I.write (x:=d) (e:=d) (t':=_) (by rw[hd];trivial) (.inl rfl) (fun b' u' ne e=>?_) ?_ (NQ hx' hs (Vj (jZ.mono (a:=d) hm hp) hk rv)),q⟩
 ·exact(sb.2 b' ne).symm▸e
 ·obtain⟨o,_,_,e,_⟩:=hx';exact⟨o,e⟩
theorem NT{pos:Pos}:PE X (.Dict [] [] pos) (fun _ H Q=>∀l,H l=none->Q (.ref l) (upd H l (.ext (jZ (fun _ _=>False) l [])))):=by
 intro pins s σ H Q I h;have far:ij≠s.heap.objs.size:=fun z=>by have lt:=(I.mod.glob.keeps I.bk).lt;rw[<- z]at lt;exact absurd lt (by decide)
 refine wpAny_Dict_empty ⟨.ref s.heap.objs.size,_,I.laid (t':=s.toks) (fun b u e=>bS _ e) (bz _) (NQ (.new s.heap) (by simpa using b_ far) .nil),rfl,h _ I.fresh⟩
theorem Zy{i:Nat}{x:Str}{pos pos' lp:Pos}(hN:X.N.Nodup)(hi:X.N[i]?=some x)(hx:FT X.env.scope x)(hs:eW (.Dict [] [] lp) (some (.Name x pos')) pos.line X.env=pure false:=by rfl)(hf:X.fn x=true∨X.env.scope.names.lookup x=some .local:=by first|exact .inl rfl|exact .inr rfl|assumption) :
  SS X B W (.Assign [.Name x pos'] (.Dict [] [] lp) pos) (fun ρ=>.nx (ρ.set i (.od []))):=by
 refine PS.imp (CG hN hi hx NT hs hf) fun De σ H ⟨ρ,G,s,p⟩=>fun l hl=>?_;exact p _ _ G (s.SQ rfl ⟨_,[],rfl,fun _ _ z=>z.elim,.nil⟩ hl) (.refl _)
noncomputable def tD:List D->Option (List Int)
 | []=>some []
 | .int i::ds=>(tD ds).map (i::·)
 |_::_=>none
noncomputable def lO:D->Option (List Int)
 | .tup ds=>tD ds
 |_=>none
theorem zM{K:ai}{G:Hp}:∀{ds:List D}{vs:List V}{ks:List Int},bF K G ds vs->tD ds=some ks->vs=ks.map V.int
 | [],vs,ks,r,e=>by cases e;exact bf.mp r
 |d::ds,vs,ks,r,e=>by
  obtain⟨v,vs',rfl,r1,r2⟩:=aO.mp r;cases d with
  |int i =>
   simp only[tD]at e;cases e2:tD ds with
   |none=>rw[e2]at e;cases e
   |some js =>
    rw[e2]at e;cases e;rw[bA.mp r1,zM r2 e2];rfl
  |_=>cases e
theorem rE{K:ai}{G:Hp}{d:D}{v:V}{ks:List Int}(r:Rep K G d v)(e:lO d=some ks):∃b,v=.ref b/\jT K G b (ks.map V.int):=by
 cases d with
 |tup ds =>
  obtain⟨a,vs,rfl,h,rr⟩:=bR.mp r;exact⟨a,rfl,zM rr e▸h⟩
 |_=>cases e
noncomputable def bT(kvs:List (List Int×D))(ks:List Int):Option D:=(kvs.find? fun p=>decide (p.1=ks)).map (·.2)
noncomputable def ju(kvs:List (List Int×D))(ks:List Int)(d:D):List (List Int×D):=if (bT kvs ks).isSome then kvs.map (fun p=>if p.1=ks then (p.1,d) else p) else kvs++[(ks,d)]
theorem dD.get{K:ai}{G:Hp}{ks:List Int}{kvs:List (List Int×D)}{bw:List (List Int×V)}(h:dD K G kvs bw):(bT kvs ks=none/\mY bw ks=none)∨∃d v,bT kvs ks=some d/\mY bw ks=some v/\Rep K G d v:=by
 induction h with
 |nil=>exact .inl ⟨rfl,rfl⟩
 | @cons k d v kvs bw r t ih =>
  by_cases c:k=ks
  ·exact .inr ⟨d,v,by simp[bT,f9,c],by simp[mY,f9,c],r⟩
  ·have e1:bT ((k,d)::kvs) ks=bT kvs ks:=by simp[bT,f9,c]
   have e2:mY ((k,v)::bw) ks=mY bw ks:=by simp[mY,f9,c]
   rw[e1,e2];exact ih
theorem dD.app{K:ai}{G:Hp}{k:List Int}{d:D}{v:V}{kvs:List (List Int×D)}{bw:List (List Int×V)}(h:dD K G kvs bw)(r:Rep K G d v):dD K G (kvs++[(k,d)]) (bw++[(k,v)]):=by
 induction h with
 |nil=>exact .cons r .nil
 |cons r1 _ ih=>exact .cons r1 ih
theorem dD.len{K:ai}{G:Hp}{kvs:List (List Int×D)}{bw:List (List Int×V)}(h:dD K G kvs bw):kvs.length=bw.length:=by
 induction h with
 |nil=>rfl
 |cons _ _ ih=>simp[ih]
theorem dD.put{K:ai}{G:Hp}{ks:List Int}{d:D}{v:V}{kvs:List (List Int×D)}{bw:List (List Int×V)}(h:dD K G kvs bw)(r:Rep K G d v):dD K G (ju kvs ks d) (Ec bw ks v):=by
 rcases h.get (ks:=ks) with ⟨e1,e2⟩|⟨_,_,e1,e2,_⟩
 ·unfold ju Ec;rw[e1,e2];exact h.app r
 ·unfold ju Ec;rw[e1,e2];show dD K G (kvs.map _) (bw.map _);clear e1 e2
  induction h with
  |nil=>exact .nil
  | @cons k d' v' kvs bw r1 _ ih =>
   by_cases c:k=ks
   ·simpa[c] using dD.cons r ih
   ·simpa[c] using dD.cons r1 ih
theorem SR.od{K:ai}{σ:St}{H G:Hp}{ρ:aH}(h:SR K B σ H ρ G){i:Nat}{kvs:List (List Int×D)}(q:ρ[i]?=some (.od kvs)) :
  ∃a U bw,σ[i]?=some (some (.ref a))/\H a=some (.ext (jZ U a bw))/\G a=none/\B.2 a=none/\(∀b ks,U b ks->UG K G b ks)/\dD K G kvs bw:=by
 obtain⟨a,o,h1,h2,h3,h4,U,bw,rfl,h5,h6⟩:=h.own i _ q rfl;exact⟨a,U,bw,h1,h2,h3,h4,h5,h6⟩
end
section
variable{X:Cx}{B:Bs}{W:Wi}
theorem Vn(hu:X.A.units + 1 < bX):Yc X (Vk X.K):=by
 intro value slice pins s σ H x y v u Q I rx ry h hs;obtain⟨b,d,ks,U,bw,v',e1,e2,hb,hd,hU,hv,q⟩:=id h;obtain⟨xs,hm,_,_,_⟩:=zL I hd hU;have ht:s.TypeIs v "dict":=by subst e1;cases rx;exact hm.typeIs
 exact PyProof.Rows.tail_any ht slot_dict_getitem.lookup (Zx hu pins s σ H x y v u Q I rx ry h) hs
theorem Vo{K:ai}{σ:St}{H G H' G':Hp}{ρ:aH}{j:Nat}{kvs:List (List Int×D)}{k:D}{v:V}{ks:List Int}(s:SR K B σ H ρ G)(q:ρ[j]?=some (.od kvs))(y:Ext G H G' H')(r:Rep K G' k v)(e:lO k=some ks) :
  ∃b d U bw,v=.ref b/\σ[j]?=some (some (.ref d))/\jT K H' b (ks.map V.int)/\UG K G' b ks/\H' d=some (.ext (jZ U d bw))/\(∀b ks,U b ks->UG K G' b ks)/\(∀b ks,UG K G' b ks->UG K H' b ks)/\dD K G' kvs bw:=by
 obtain⟨b,rfl,hb⟩:=rE r e;obtain⟨d,U,bw,h1,h2,h3,h4,h5,h6⟩:=s.od q;exact⟨b,d,U,bw,rfl,h1,Same.cV y.gh hb,hb,y.hh _ _ h2,fun c js z=>Same.cV y.gg (h5 c js z),fun c js z=>Same.cV y.gh z,h6.mono y.gg⟩
noncomputable def nu(j:Nat)(fe fk:aH->Rs D):aH->Ou:=fun ρ=>oR (fe ρ) ρ fun v=>match ρ[j]? with
 |some (.od kvs)=>oR (fk ρ) ρ fun k=>(match lO k with
  |some ks=>if kvs.length<=1000000 then .nx (ρ.set j (.od (ju kvs ks v))) else .no
  |none=>.no)
 |_=>.no
theorem Zz{e b:ah}{x:Str}{p1 tp pos:Pos}{j:Nat}{fe fk:aH->Rs D}(hu:X.A.units + 1 < bX)(he:SE X B W e fe)(hv:PE X (.Name x p1) (FW j))(hb:SE X B W b fk)
  (hs:mf [.Subscript (.Name x p1) b tp] e pos.line X.env=pure false:=by rfl) (hw:mh [.Subscript (.Name x p1) b tp] e X.env=pure none:=by rfl)
  (h1:(fN [.Subscript (.Name x p1) b tp] X.env).map (·.2)=[assign (.Subscript (.Name x p1) b tp) X.env]:=by rfl)
  (ha:∀v,assign (.Subscript (.Name x p1) b tp) X.env v=(do
   let ov <- eL [v] (aS (.Name x p1) X.env)
   let iv <- eL [v,ov] (aS b X.env)
   me tp
   eL [v,ov,iv] (setItem ov iv v)
   release [v,ov,iv] []):=by intro _;rfl) :
  SS X B W (.Assign [.Subscript (.Name x p1) b tp] e pos) (nu j fe fk):=by
 refine PS.imp (Jo he (RB hv hb (Vm hu) ha) hs hw h1) fun De σ H fj=>?_;obtain⟨ρ,G,s,p⟩:=fj;unfold nu at p;refine⟨ρ,G,s,jU s p fun d v H' G' _ y r p'=>?_⟩;cases e2:ρ[j]? with
 |none=>rw[e2]at p';exact p'.elim
 |some z =>
  rw[e2]at p';cases z with
  |od kvs =>
   have s':=s.ext y;obtain⟨d0,U0,Kc,h1,h2,_⟩:=s'.od e2;refine⟨_,h1,ρ,G',s',jU s' p' fun k v2 H2 G2 _ y2 r2 p2=>?_⟩;cases e1:lO k with
   |none=>rw[e1]at p2;exact p2.elim
   |some ks =>
    rw[e1]at p2;dsimp only at p2;by_cases hl:kvs.length<=1000000
    ·rw[if_pos hl]at p2;obtain⟨b',d1,U,bw,rfl,q1,q2,q3,q4,q5,q6,q7⟩:=Vo s' e2 y2 r2 e1;rw[h1]at q1;cases q1;refine⟨b',d0,ks,U,UG X.K G2,bw,rfl,rfl,q2,q4,q5,q6,q3,by rw[<- q7.len];exact hl,?_⟩;exact p2 σ _ G2 ((s'.ext y2).Gn e2 rfl h1 rfl ⟨UG X.K G2,_,rfl,fun _ _ z=>z,q7.put (r.mono y2.gg)⟩) (.refl _)
    ·rw[if_neg hl]at p2;exact p2.elim
  |_=>exact p'.elim
noncomputable def Vp(K:ai):V->List V->Hp->VK->Prop:=fun x vs H Q=>∃(b d:ae) (w:V) (ks:List Int) (U:ae->List Int->Prop) (bw:List (List Int×V)),x=.ref d/\vs=[.ref b,w]/\jT K H b (ks.map V.int)/\wj H d U bw/\(∀b ks,U b ks->UG K H b ks)/\Q ((mY bw ks).getD w) H
theorem NZ(hu:X.A.units + 1 < bX):MtR X "dict.get" (Vp X.K):=by
 intro pins s σ H x vs v us Q I rx rv ⟨b,d,w,ks,U,bw,e1,e2,hb,hd,hU,q⟩;subst e1;subst e2;cases rx;cases rv with
 |cons r1 rv =>
  cases rv with
  |cons r2 rv =>
   cases rv;cases r1;obtain⟨xs,hm,hs,hp,_⟩:=zL I hd hU;refine call_meetsIn vS hm.typeIs F.entry_dict_get (F.args_dict_get_3 _ _ _) (meetsH_dict_get_default (pV (de X.prog X.w)) d b hs _) ⟨r8 hu,ks,xs,uz I hb,hm,?_⟩;refine⟨_,H,I.tok _,?_,q⟩;rcases qF (ks:=ks) hp with ⟨w1,w2⟩|⟨v',q',w1,w2,w3⟩
   ·rw[w1,w2];exact r2
   ·rw[w1,w2];exact w3
noncomputable def zN(j:Nat)(fs:aH->Rs (List D)):aH->Rs D:=fun ρ=>match ρ[j]? with
 |some (.od kvs)=>(fs ρ).bind fun es=>match es with
  | [k,w]=>(match lO k with|some ks=>.ok ((bT kvs ks).getD w)|none=>.no)
  |_=>.no
 |_=>.no
theorem ZC{k d:ah}{x:Str}{p1 p2 cp:Pos}{j:Nat}{fs:aH->Rs (List D)}(hu:X.A.units + 1 < bX)(hv:PE X (.Name x p1) (FW j))(ha:SA X B W [k,d] fs)
  (h1:mE (.Name x p1) "get" X.env (aS (.Name x p1) X.env)=aS (.Name x p1) X.env:=by rfl) (h2:bg [k,d] X.env=[(false,aS k X.env),(false,aS d X.env)]:=by rfl)
  (h3:((dt cp (bg [k,d] X.env)).all (fun q=>!q.1) && (j5 cp (j6 [] X.env)).all (fun q=>q.1.isSome) && decide (([k,d]:List ah).length + 0 + 0 < 30))=true:=by rfl)
  (h4:(p2.endLine == cp.line)=true:=by rfl) (h5:((dt cp (bg [k,d] X.env)).any fun q=>q.1)=false:=by rfl) :
  SE X B W (.Call (.Attribute (.Name x p1) "get" p2) [k,d] [] cp) (zN j fs):=by
 intro pins s σ H Q I ⟨ρ,G,sr,p⟩;unfold zN at p;cases e2:ρ[j]? with
 |none=>rw[e2]at p;exact p.elim
 |some z =>
  rw[e2]at p;cases z with
  |od kvs =>
   obtain⟨d0,U0,Kc,g1,g2,_⟩:=sr.od e2;refine tq h1 h3 h4 rfl (iK (hv pins s σ H (fun y H1=>y=.ref d0/\H1=H) I ⟨_,g1,rfl,rfl⟩) fun v s1 fj=>?_);obtain⟨y,H1,I1,r1,hy,hH⟩:=fj;subst hy;subst hH;cases r1;obtain⟨⟨o',es',ep',xs',w1,w2,_⟩,_,_⟩:=(show dW X.prog X.w H1 s1.heap d0 (.ext (jZ U0 d0 Kc)) from I1.hok d0 _ g2)
   refine⟨"dict","dict.get",F.plainAttrs_dict,vS,F.type_dict_get,⟨o',w1,w2.1⟩,fun a ea=>?_,?_⟩
   ·cases ea;exact⟨o',w1,w2.2.1⟩
   have p':Post X.K W σ G H1 ((fs ρ).bind fun es=>match es with
     | [k,w]=>(match lO k with|some ks=>.ok ((bT kvs ks).getD w)|none=>.no)
     |_=>.no) Q:=p
   have hA:=ha cp pins s1 σ H1 (fun vs H2=>Vp X.K (.ref d0) vs H2 Q) I1 ⟨ρ,G,sr,?_⟩
   ·rw[h2]at hA h5 ⊢;refine tx h5 (qh ?_);exact iK hA fun us s2 ⟨vs,H2,I2,r2,q2⟩=>NZ hu pins s2 σ H2 (.ref d0) vs (.ref d0) us Q I2 rfl r2 q2
   ·cases e:fs ρ with
    |no=>rw[e]at p';exact p'.elim
    |ex c n=>rw[e]at p';exact p'
    |ok es =>
     rw[e]at p';intro vs H' G' y r
     match es,p',r with
     | [],p',r=>exact p'.elim
     | [_],p',r=>exact p'.elim
     |_::_::_::_,p',r=>exact p'.elim
     | [k,w],p',r =>
      obtain⟨v1,vs1,rfl,r1,r2⟩:=aO.mp r;obtain⟨v2,vs2,rfl,r3,r4⟩:=aO.mp r2;cases bf.mp r4;have p3:Post X.K W σ G H1 (match lO k with|some ks=>.ok ((bT kvs ks).getD w)|none=>.no) Q:=p';cases e1:lO k with
      |none=>rw[e1]at p3;exact p3.elim
      |some ks =>
       rw[e1]at p3;dsimp only at p3;obtain⟨b',d1,U,bw,rfl,q1,q2,q3,q4,q5,q6,q7⟩:=Vo sr e2 y r1 e1;rw[g1]at q1;cases q1;refine⟨b',d0,v2,ks,U,bw,rfl,rfl,q2,Mq q4,fun c js z=>q6 c js (q5 c js z),?_⟩;rcases q7.get (ks:=ks) with ⟨w1,w2⟩|⟨dd,vv,w1,w2,w3⟩
       ·rw[w2];rw[w1]at p3;exact p3 v2 H' G' y r3
       ·rw[w2];rw[w1]at p3;exact p3 vv H' G' y w3
  |_=>exact p.elim
end
section
variable{X:Cx}{B:Bs}{W:Wi}
theorem Hw{M:Model}{A:aI}{E:aa->af->Prop}{s:af}{v u:aa}{Q:aa->af->Prop}(h:ar M A (gd .In v u) (fun r s'=>∃c,r=.bool c/\Q (.bool (!c)) s') E s) :
  ar M A (gd .NotIn v u) Q E s:=by
 have h':ar M A (contains u v >>= fun b=>pure (aa.bool b)) (fun r s'=>∃c,r=aa.bool c/\Q (.bool (!c)) s') E s:=h;show ar M A (contains u v >>= fun b=>pure (aa.bool (!b))) Q E s;intro Γ p hΓ;have h2:=h' Γ p hΓ;simp only[Sem.wp_bind',Sem.wp_pure']at h2 ⊢;refine Sem.wp_mono M Γ _ (fun b p1 s1 z=>?_) (fun _ _ _ z=>z) _ _ h2;obtain⟨c,e,q⟩:=z;cases e;exact q
noncomputable def Vq(K:ai):R2:=fun x y H Q=>NK K x y H fun z H'=>∃c,z=.bl c/\Q (.bl (!c)) H'
theorem Vr(hu:X.A.units + 1 < bX):tR X (gd .NotIn) (Vq X.K):=by intro pins s σ H x y v u Q I rx ry h;refine Hw (dS (NP hu pins s σ H x y v u _ I rx ry h) (fun r s' ⟨z,H',I',rz,c,e,q⟩=>?_) fun _ _ e=>e);subst e;cases rz;exact⟨c,rfl,V.bl (!c),H',I',rfl,q⟩
end
noncomputable def Hx(i:Nat):aH->Ou:=fun ρ=>.nx (ρ.set i (.od []))
section
variable{X:Cx}{B:Bs}{W:Wi}
theorem tE(i:Nat){x:Str}{pos pos' lp:Pos}(hN:X.N.Nodup)(hi:X.N[i]?=some x:=by rfl)(hx:FT X.env.scope x:=by first|exact Or.inl rfl|exact Or.inr rfl)(hs:eW (.Dict [] [] lp) (some (.Name x pos')) pos.line X.env=pure false:=by rfl)(hf:X.fn x=true∨X.env.scope.names.lookup x=some .local:=by first|exact .inl rfl|exact .inr rfl|assumption) :
  SS X B W (.Assign [.Name x pos'] (.Dict [] [] lp) pos) (Hx i):=Zy hN hi hx hs hf
theorem zO(h:X.A.units + 8 < bX):X.A.units + 1 < bX:=by lia
theorem Oa(j:Nat){k d:ah}{x:Str}{p1 p2 cp:Pos}{fs:aH->Rs (List D)}(hu:X.A.units + 8 < bX)(ha:SA X B W [k,d] fs)(hN:X.N[j]?=some x:=by rfl)(hv:Ri X.env.scope x:=by first|exact Or.inl rfl|exact Or.inr (Or.inl rfl)|exact Or.inr (Or.inr rfl))(hd:uN x:=by decide)
  (hcd:Rq x:=by decide)
  (h1:mE (.Name x p1) "get" X.env (aS (.Name x p1) X.env)=aS (.Name x p1) X.env:=by rfl) (h2:bg [k,d] X.env=[(false,aS k X.env),(false,aS d X.env)]:=by rfl)
  (h3:((dt cp (bg [k,d] X.env)).all (fun q=>!q.1) && (j5 cp (j6 [] X.env)).all (fun q=>q.1.isSome) && decide (([k,d]:List ah).length + 0 + 0 < 30))=true:=by rfl)
  (h4:(p2.endLine == cp.line)=true:=by rfl) (h5:((dt cp (bg [k,d] X.env)).any fun q=>q.1)=false:=by rfl) :
  SE X B W (.Call (.Attribute (.Name x p1) "get" p2) [k,d] [] cp) (zN j fs):=ZC (zO hu) (nW hN hv hd hcd) ha h1 h2 h3 h4 h5
theorem nA(j:Nat){e b:ah}{x:Str}{p1 tp pos:Pos}{fe fk:aH->Rs D}(hu:X.A.units + 8 < bX)(he:SE X B W e fe)(hb:SE X B W b fk)(hN:X.N[j]?=some x:=by rfl)(hv:Ri X.env.scope x:=by first|exact Or.inl rfl|exact Or.inr (Or.inl rfl)|exact Or.inr (Or.inr rfl))(hd:uN x:=by decide)
  (hcd:Rq x:=by decide)
  (hs:mf [.Subscript (.Name x p1) b tp] e pos.line X.env=pure false:=by rfl) (hw:mh [.Subscript (.Name x p1) b tp] e X.env=pure none:=by rfl)
  (h1:(fN [.Subscript (.Name x p1) b tp] X.env).map (·.2)=[assign (.Subscript (.Name x p1) b tp) X.env]:=by rfl)
  (ha:∀v,assign (.Subscript (.Name x p1) b tp) X.env v=(do
   let ov <- eL [v] (aS (.Name x p1) X.env)
   let iv <- eL [v,ov] (aS b X.env)
   me tp
   eL [v,ov,iv] (setItem ov iv v)
   release [v,ov,iv] []):=by intro _;rfl) :
  SS X B W (.Assign [.Subscript (.Name x p1) b tp] e pos) (nu j fe fk):=Zz (zO hu) he (nW hN hv hd hcd) hb hs hw h1 ha
end
section
variable{X:Cx}{K:ai}{B:Bs}{W:Wi}{σ:St}{G H:Hp}{ρ:aH}{a b c:ah}{pos:Pos}{fa fb fc:aH->Rs D}
noncomputable def Hy:List D->Rs D
 | [.int i,.int j]=>.ok (.int (if j < i then j else i))
 |_=>.no
theorem ZD:qm K (fun xs H Q=>∃i j,xs=[V.int i,.int j]/\Q (.int (if j < i then j else i)) H) Hy:=by
 intro B W σ ρ G H ds vs Q s r p
 match ds,p,r with
 | [.int i,.int j],p,r =>
  obtain⟨v1,vs1,rfl,r1,r2⟩:=aO.mp r;obtain⟨v2,vs2,rfl,r3,r4⟩:=aO.mp r2;cases bf.mp r4;exact⟨i,j,by rw[bA.mp r1,bA.mp r3],p _ H G s.uW (bA.mpr rfl)⟩
theorem Ob{e e':ah}{p pos:Pos}(hc:X.calm=true) (hm:X.mg "min"=none) (ha:SE X B W e fa) (hb:SE X B W e' fb) (hg:Gl X "min":=by rfl) (he:bg [e,e'] X.env=[(false,aS e X.env),(false,aS e' X.env)]:=by rfl) (he':bg [e'] X.env=[(false,aS e' X.env)]:=by rfl) :
  SE X B W (.Call (.Name "min" p) [e,e'] [] pos) (fA (ak fa (ak fb aZ)) Hy) :=
 mz (Pu hc) ZD hg hm rfl (aq ha (aq hb aQ he') (by rw[he,he'])) (by decide) (by decide) (by rw[he,he']) (by rw[he'];rfl)
end
section
variable{X:Cx}{B:Bs}{W:Wi}
end
end Vl
namespace L2
open PySem PySem.Spec PyProof.Rows
section
variable{X:Cx}{pins:List (ae×Obj)}{σ:List (Option V)}{H:Hp}{s:af}{h':Heap}
theorem Inv.Vs{t':Nat}{ch:List ae}{T:ae}{o:HO}(I:Inv X pins σ H s)(k:∀b u,b∉ch->s.heap.get? b=some u->h'.get? b=some u)(hf:∀b∈ch,mj X pins H b)(hT:s.heap.objs.size<=T)
  (new:dW X.prog X.w (upd H T o) h' T o):Inv X pins σ (upd H T o) { s with heap:=h',toks:=t' }:=by
 have fr:H T=none:=I.hok.fresh hT;have neT:∀b u,s.heap.get? b=some u->b≠T:=fun b u e=>ck (dm (bE e) hT);have tr:∀b u,H b=some u->b≠T:=fun b u e=>aP e fr;have Lw:∀b u,H b=some u->b∉ch:=fun b u e z=>by rw[(hf b z).1]at e;cases e
 refine I.step (g':=s.gens) (d':=s.drawn) (ch:=ch) (fun b hb=>⟨(hf b hb).2.2.2.1,(hf b hb).2.1,(hf b hb).2.2.2.2.1,(hf b hb).2.2.2.2.2⟩) (fun b o _ _ hc e _=>k b o hc e) (fun b o _ _ hc e _=>⟨o.slots,k b o hc e⟩) (fun b o _ e n=>by rw[aK (neT b o e)];exact n)
  (fun b o hc e=>⟨o,k b o hc e⟩) (fun b xs e=>by rw[aK (tr _ _ e)];exact e) (fun b o u e=>by rw[aK (tr _ _ e)];exact e) (fun b ps e=>⟨#[],by rw[aK (tr _ _ e),e];simp⟩) (fun m hm=>?_) (fun b u e=>?_) I.bare
 ·obtain⟨o,es,ep,ho,r⟩:=hm;exact⟨o,es,ep,k _ o (fun z=>(hf _ z).2.1 rfl) ho,r⟩
 ·by_cases hb:b=T
  ·subst hb;rw[aW]at e;cases e;exact new
  ·rw[aK hb]at e;refine(I.hok b u e).stay (fun c v hc q=>k c v ?_ q) (fun c q=>by rw[aK (tr _ _ q)];exact q) (fun c xs q=>by rw[aK (tr _ _ q)];exact q) fun c xs q=>by rw[aK (tr _ _ q)];exact q
   rcases hc with z|z
   ·rw[z];exact Lw b u e
   ·exact Lw c _ z
theorem Inv.pI{t':Nat}{ch:List ae}(I:Inv X pins σ H s)(k:∀b u,b∉ch->s.heap.get? b=some u->h'.get? b=some u)(hf:∀b∈ch,mj X pins H b):Inv X pins σ H { s with heap:=h',toks:=t' }:=by
 have Lw:∀b u,H b=some u->b∉ch:=fun b u e z=>by rw[(hf b z).1]at e;cases e
 refine I.step (g':=s.gens) (d':=s.drawn) (ch:=ch) (fun b hb=>⟨(hf b hb).2.2.2.1,(hf b hb).2.1,(hf b hb).2.2.2.2.1,(hf b hb).2.2.2.2.2⟩) (fun b o _ _ hc e _=>k b o hc e) (fun b o _ _ hc e _=>⟨o.slots,k b o hc e⟩) (fun _ _ _ _ n=>n)
  (fun b o hc e=>⟨o,k b o hc e⟩) (fun _ _ e=>e) (fun _ _ _ e=>e) (fun b ps e=>⟨#[],by rw[e];simp⟩) (fun m hm=>?_) (fun b u e=>?_) I.bare
 ·obtain⟨o,es,ep,ho,r⟩:=hm;exact⟨o,es,ep,k _ o (fun z=>(hf _ z).2.1 rfl) ho,r⟩
 ·refine(I.hok b u e).stay (fun c v hc q=>k c v ?_ q) (fun _ q=>q) (fun _ _ q=>q) fun _ _ q=>q;rcases hc with z|z
  ·rw[z];exact Lw b u e
  ·exact Lw c _ z
end
section
variable{X:Cx}
end
end L2
namespace Vl
open PySem PySem.Spec L2
section
variable{X:Cx}{B:Bs}{W:Wi}
end
end Vl
namespace PySem
namespace Jm
theorem Qs:Slot "reversed" "__init__" "object.__init__" :=
 .of (owner:="object") (n:="__init__") (by rw[r_,se];kernel_rfl) (by decide+kernel) (by decide+kernel) (by decide+kernel)
  (by first|exact .inl (by decide+kernel)|exact .inr (by decide+kernel)) (by rw[nK];kernel_rfl)
theorem called:TypeCalled "reversed" "reversed.__new__" "object.__init__" :=
 ⟨by decide+kernel,by decide+kernel,⟨_,_,F.mro_reversed⟩,F.made_reversed,by decide+kernel,by rw[nK];kernel_rfl,Qs⟩
theorem slot_next:Slot "reversed" "__next__" "reversed.__next__" :=
 .of (owner:="reversed") (n:="__next__") (by rw[r_,se];kernel_rfl) (by decide+kernel) (by decide+kernel) (by decide+kernel)
  (by first|exact .inl (by decide+kernel)|exact .inr (by decide+kernel)) (by rw[nK];kernel_rfl)
theorem entry_next:entryFor table "reversed.__next__"=some Builtin.«reversed.__next__»:=entryFor_of_tree (by kernel_rfl)
theorem args_next(a:aa):lj "reversed.__next__" ⟨[a],[]⟩:=by unfold lj;kernel_rfl
theorem BZ:Slot "reversed" "__iter__" "reversed.__iter__" :=
 .of (owner:="reversed") (n:="__iter__") (by rw[r_,se];kernel_rfl) (by decide+kernel) (by decide+kernel) (by decide+kernel)
  (by first|exact .inl (by decide+kernel)|exact .inr (by decide+kernel)) (by rw[nK];kernel_rfl)
theorem Qt(a:aa):lj "reversed.__iter__" ⟨[a],[]⟩:=by unfold lj;kernel_rfl
theorem Ke:entryFor table "reversed.__iter__"=some Builtin.«dict_keyiterator.__iter__» :=
 entryFor_alias (id':="dict_keyiterator.__iter__") (by kernel_rfl) (by first|rfl|decide+kernel|(unfold String.splitOn;simp+decide [String.splitOnAux])) (by decide+kernel) (by kernel_rfl)
theorem adg:typeLookup (.type "tuple") "__reversed__"=pure none:=by rw[r_,se];kernel_rfl
end Jm
section
variable{prog:aE}{w:az}{A:aI}{E:aa->af->Prop}{s:af}
noncomputable def Oc(t:ae)(i:Int):Obj:={ cls:=.type "reversed",data:=.fields #[.ref t,dy i] }
noncomputable abbrev Heap.sO(h:Heap)(a t:ae)(i:Int):Prop:=h.get? a=some { cls:=.type "reversed",dict:=none,data:=.fields #[.ref t,dy i],slots:=#[] }
theorem iR{a t:ae}{i:Int}(x:s.heap.sO a t i):s.TypeIs (.ref a) "reversed":=⟨_,x,rfl⟩
theorem rT(t:ae)(items:Array aa):Meets (Builtin.«reversed.__new__» ⟨[.type "reversed",.ref t],[]⟩)
  (fun _ R s=>vT s.heap t items/\(items.size:Int) < 2 ^ 63/\∀tk,R (.ok (.ret (.ref s.heap.objs.size))) { s with heap:=s.heap.push (Oc t ((items.size:Int) - 1)),toks:=tk }) :=
 .of_wp fun prog w A R s h=>by
  obtain⟨ht,hfit,h⟩:=h;unfold Builtin.«reversed.__new__»;refine ag (jI (newClass_reversed _) ?_)
  try dsimp only
  refine ag (jI (a:=()) (by first|rfl|kernel_rfl) ?_);refine ag (jI (a:=()) (by first|rfl|kernel_rfl) ?_)
  try dsimp only
  refine ag (sf ht.typeIs Jm.adg ?_)
  try dsimp only
  refine ag ?_
  wp_delta
  refine ag (nL (T:="tuple") (b:=false) ht.typeIs (by rw[nK];kernel_rfl) ?_)
  try dsimp only
  try simp only[cn,if_false]
  refine ag (sf ht.typeIs PyProof.Rows.slot_tuple_getitem.lookup ?_)
  try dsimp only
  rw[if_pos (by decide)];refine a_ ?_
  try simp only[gp,cn,if_false]
  refine ag (PyProof.Rows.len_tuple ht hfit ?_);refine ag (m:=asInt? _) (a_ ?_)
  try dsimp only
  refine ag ?_;show ar _ _ (newObj (.type "reversed") (.fields #[.ref t,dy ((items.size:Int) - 1)])) _ _ _;exact gz (a_ ⟨_,rfl,h _⟩)
theorem rW{t:ae}{items:Array aa}{Q:aa->af->Prop}(ht:vT s.heap t items)(hfit:(items.size:Int) < 2 ^ 63)
  (h:∀tk,Q (.ref s.heap.objs.size) { s with heap:=s.heap.push (Oc t ((items.size:Int) - 1)),toks:=tk }):ar (ax prog w) A (call (.type "reversed") [.ref t]) Q E s:=by
 refine callType_new Jm.called (by decide) (F.typeCall_reversed_1 _) (F.newCall_reversed_1 _) (fun obj=>F.args_object_init_2 obj _) F.entry_reversed_new (rT t items) ⟨ht,hfit,fun tk=>?_⟩;exact⟨⟨_,cy _ rfl,rfl⟩,h tk⟩
theorem oV{it t:ae}{i:Int}{Q:aa->af->Prop}(hit:s.heap.sO it t i)(h:Q (.ref it) s):ar (ax prog w) A (pyIter (.ref it)) Q E s:=by refine wpAny_pyIter_slot (iR hit) Jm.BZ (ic Jm.BZ (iR hit) Jm.Ke ?_ (Jm.Qt _));show ar _ _ (ret (.ref it)) _ _ s;exact a_ ⟨_,rfl,"reversed",_,(iR hit),Jm.slot_next.lookup,h⟩
theorem pZ{it t:ae}{i:Nat}{items:Array aa}{x:aa}{Q:Option aa->af->Prop}(hit:s.heap.sO it t (i:Int))(ht:vT s.heap t items)(hi:(items.size:Int) < 2 ^ 63)(hx:items[i]?=some x)
  (hQ:∀h' tk,h'.sO it t ((i:Int) - 1)->fI it s.heap h'->Q (some x) { s with heap:=h',toks:=tk }):ar (ax prog w) A (eD (.ref it)) Q E s:=by
 have hlt:i < items.size:=by have:=(gi.mp hx).1;exact this
 unfold eD;refine ag (ja (kD (name:=kF "__next__") (iR hit) Jm.slot_next
  (ic Jm.slot_next (iR hit) Jm.entry_next ?_ (Jm.args_next _))))
 unfold Builtin.«reversed.__next__»;refine ag (jI (a:=(aa.ref it,[])) rfl ?_)
 try dsimp only
 refine ag (ef hit rfl (x:=.ref t) rfl ?_);refine ag (ef hit rfl (x:=dy (i:Int)) rfl ?_);show ar _ _ (if (i:Int) < 0 then _ else _) _ _ s;rw[if_neg (by lia)];refine ag (sf ht.typeIs PyProof.Rows.slot_tuple_getitem.lookup ?_)
 try dsimp only
 rw[if_neg (by simp)];refine ag (wpAny_mkInt ?_);refine ag (ja (PyProof.Rows.getItem_tuple (j:=i) ht (by lia) (by lia) (by simp[seqIndex?];lia) hx ?_))
 try dsimp only
 refine ag (ef hit rfl (x:=dy (i:Int)) rfl ?_)
 try dsimp only
 refine ag (kG hit (by simp) fun h' he' hs'=>?_);exact a_ ⟨x,rfl,a_ (hQ h' _ he' hs')⟩
theorem qG{it t:ae}{Q:Option aa->af->Prop}(hh:A.handled=none)(hit:s.heap.sO it t (-1))
  (hQ:∀h',si it s.heap h'->Q none { s with heap:=h' }):ar (ax prog w) A (eD (.ref it)) Q E s:=by
 unfold eD;refine ag (ja (kD (name:=kF "__next__") (iR hit) Jm.slot_next
  (ic Jm.slot_next (iR hit) Jm.entry_next ?_ (Jm.args_next _))))
 unfold Builtin.«reversed.__next__»;refine ag (jI (a:=(aa.ref it,[])) rfl ?_)
 try dsimp only
 refine ag (ef hit rfl (x:=.ref t) rfl ?_);refine ag (ef hit rfl (x:=dy (-1)) rfl ?_);show ar _ _ (if (-1:Int) < 0 then _ else _) _ _ s;rw[if_pos (by decide)];refine ag (f7 ?_);refine ag ?_
 wp_delta
 refine ag (kG hit (by simp) fun h1 he1 hs1=>?_);refine kG he1 (by simp) fun h2 he2 hs2=>?_;have x2:si it s.heap h2:=fun b o hb e=>hs2.extBut b o hb (hs1.extBut b o hb e)
 first
 |show ar _ _ (newExc (.type "StopIteration") [] >>= _) _ _ _
 | (refine ag ?_;show ar _ _ (newExc (.type "StopIteration") [] >>= _) _ _ _)
 refine ag ?_;simp only[newExc,newTuple];refine ag (gz ?_ (by size_fits));refine ag (m:=nN _ _) (jI (a:=aa.none) (by first|rfl|(simp only[nN];rfl)) ?_);refine gz ?_ (by size_fits);simp only[raiseNew];refine ag (v8 ?_)
 first|rw[show A.in1.handled=none from hh]|rw[hh]
 refine ag (a_ (qv ?_));refine ag (nL (T:="StopIteration") (b:=true) ⟨_,cy _ rfl,rfl⟩ v_ ?_);exact a_ (hQ _ ((x2.push _).push _))
end
end PySem
namespace PySem
open PyProof.Rows (IsTup)
section
variable{prog:aE}{w:az}{A:aI}{E:aa->af->Prop}{s:af}
end
section
variable{prog:aE}{w:az}{A:aI}{E:aa->af->Prop}{s:af}
end
end PySem
namespace Vl
open PySem PySem.Spec L2
section
variable{X:Cx}{B:Bs}{W:Wi}{K:ai}
theorem Hz{G:Hp}:∀{ds:List D}{vs:List V},bF K G ds vs->bF K G ds.reverse vs.reverse
 | [],_,h=>by rw[bf.mp h];exact bf.mpr rfl
 |d::ds,_,h=>by obtain⟨v,vs',rfl,h1,h2⟩:=aO.mp h;rw[wa,wa];exact(Hz h2).append (bF.one h1)
end
end Vl
namespace Vl
open PySem PySem.Spec PySem.Calls PySem.W L2
structure ahU (K:ai)(x:Str)(st:bj)(f:ae)(fd:dq)(ps:List Str):Prop where
 ex:∃(oc:aa) (od:Option ae) (dV kV doc pm:aa) (an:Option ae) (cdv ct:aa) (osl:Array (Option aa)),
  fd=gf x x (dg st) (cB st) (aJ st) dV kV doc pm an cdv ct/\K.lookup f=some ⟨oc,od,.func fd,osl⟩/\my K cdv x=true
 kp:j0 K (.ref f)=true
 bi:Binds K fd ps []
end Vl
namespace Vl
open PySem PySem.Spec L2
section
variable{X:Cx}{K:ai}{B:Bs}{W:Wi}{σ:St}{G H:Hp}{ρ:aH}{a b c:ah}{pos:Pos}{fa fb fc:aH->Rs D}
noncomputable def HB:List D->Rs D
 | [.int i,.int j]=>.ok (.int (if j > i then j else i))
 |_=>.no
theorem ZF:qm K (fun xs H Q=>∃i j,xs=[V.int i,.int j]/\Q (.int (if j > i then j else i)) H) HB:=by
 intro B W σ ρ G H ds vs Q s r p
 match ds,p,r with
 | [.int i,.int j],p,r =>
  obtain⟨v1,vs1,rfl,r1,r2⟩:=aO.mp r;obtain⟨v2,vs2,rfl,r3,r4⟩:=aO.mp r2;cases bf.mp r4;exact⟨i,j,by rw[bA.mp r1,bA.mp r3],p _ H G s.uW (bA.mpr rfl)⟩
theorem Od{e e':ah}{p pos:Pos}(hc:X.calm=true) (hm:X.mg "max"=none) (ha:SE X B W e fa) (hb:SE X B W e' fb) (hg:Gl X "max":=by rfl) (he:bg [e,e'] X.env=[(false,aS e X.env),(false,aS e' X.env)]:=by rfl) (he':bg [e'] X.env=[(false,aS e' X.env)]:=by rfl) :
  SE X B W (.Call (.Name "max" p) [e,e'] [] pos) (fA (ak fa (ak fb aZ)) HB) :=
 mz (Pq hc) ZF hg hm rfl (aq ha (aq hb aQ he') (by rw[he,he'])) (by decide) (by decide) (by rw[he,he']) (by rw[he'];rfl)
end
noncomputable def fL2(fs:aH->Rs (List D))(g:List D->Rs (List D)):aH->Rs (List D):=fun ρ=>(fs ρ).bind g
section
variable{X:Cx}{B:Bs}{W:Wi}
end
end Vl
namespace Dk
open PySem PySem.Spec
section
variable{prog:aE}{w:az}{A:aI}{E:aa->af->Prop}{s:af}{d it:ae}{es:Array oy}{ep:Nat}
noncomputable def oW(h:Heap)(d:ae)(es:Array oy)(ep:Nat):Prop:=∃o,h.get? d=some o/\o.ExactDict/\o.data=.dict es ep
theorem oW.ty(x:oW s.heap d es ep):s.TypeIs (.ref d) "dict":=let ⟨o,ho,hc,_⟩:=x;⟨o,ho,hc.1⟩
theorem oW.go{h h':Heap}(x:oW h d es ep)(e:∀o,h.get? d=some o->h'.get? d=some o):oW h' d es ep:=let ⟨o,ho,r⟩:=x;⟨o,e o ho,r⟩
noncomputable def Qu(d:ae)(i n ep:Nat):Obj:={ cls:=.type "dict_keyiterator",data:=.fields #[.ref d,.int i 0,.int n 0,.int ep 0] }
theorem Vt{h:Heap}{i n:Nat}(e:h.get? it=some (Qu d i n ep)):h.IsKeyIter it d i n ep:=⟨_,e,rfl,rfl⟩
theorem abe{Q:aa->af->Prop}(hd:(d == ij)=false)(hm:oW s.heap d es ep)(hQ:Q (.ref s.heap.objs.size) { s with heap:=s.heap.push (Qu d 0 es.size ep) }):ar (ax prog w) A (pyIter (.ref d)) Q E s:=by obtain⟨o,ho,hc,hdat⟩:=id hm;refine wpAny_pyIter_slot hm.ty F.slot_dict_iter (ic F.slot_dict_iter hm.ty F.entry_dict_iter ?_ (F.args_dict_iter_1 _));unfold Builtin.«dict.__iter__» cw.Dict.dictSlotNone;refine ag (ag (wpAny_notOrdered_dict hm.ty ?_));show ar _ _ (pure (aa.ref d)) _ _ s;refine a_ ?_;show ar _ _ (cw.Dict.showsAll d >>= _) _ _ s;unfold cw.Dict.showsAll;rw[if_neg (by rw[hd];exact uk)];refine ag (a_ (ag (wb ho hdat (ag (wc ho hdat ?_)))));exact ag (gz (a_ ⟨_,rfl,"dict_keyiterator",_,⟨_,cy _ rfl,rfl⟩,pk.lookup,hQ⟩))
theorem afF{i:Nat}{Q:Option aa->af->Prop}(hit:s.heap.IsKeyIter it d i es.size ep)(hm:oW s.heap d es ep)(hx:i < es.size)
  (hQ:∀h',h'.IsKeyIter it d (i + 1) es.size ep->fI it s.heap h'->Q (some es[i].key) { s with heap:=h' }):ar (ax prog w) A (eD (.ref it)) Q E s:=by
 obtain⟨o,ho,hc,hd⟩:=id hit;obtain⟨od,hod,hcd,hdd⟩:=id hm;unfold eD;refine ag (ja (kD (name:=kF "__next__") hit.typeIs pk (ic pk hit.typeIs F.entry_dict_keyiterator_next ?_ (F.args_dict_keyiterator_next_1 _))));refine ag (a_ (ag (ag (ag ?_))))
 first|refine sj hit.typeIs (a_ ?_)|refine sm hit.typeIs (a_ ?_)
 refine ag (wpAny_fieldsOf ho hd ?_);simp only[show cw.Dict_items.ownsTuple "dict_keyiterator"=false by decide,cn,if_false];show ar _ _ (if (aa.ref d == aa.none)=true then _ else _) _ _ s;rw[if_neg (by intro z;cases z)];refine ag (a_ (ag (wb hod hdd ?_)));rw[if_neg (by simp)];refine ag (a_ (ag (wc hod hdd ?_)));rw[if_neg (by simp)];refine a_ ?_;simp only[show ¬((i:Int) < 0) from by lia,if_false,m9,qV hx];refine ag (ag ?_)
 first|refine sj hit.typeIs (a_ ?_)|refine sm hit.typeIs (a_ ?_)
 refine ag (wpAny_isOneOf_keyiter hit.typeIs ?_);show ar _ _ (setField (.ref it) 1 (dy ((i:Int) + 1)) >>= _) _ _ s;refine ag (k9 ho hd (by simp) ?_);have hit':(s.heap.update it (ky (·.setIfInBounds 1 (dy ((i:Int) + 1))))).IsKeyIter it d (i + 1) es.size ep :=
  ⟨_,gE _ ho (qr (k_ hd _)),(uv ..).trans hc,by rw[k_ hd];simp[dy]⟩
 refine ag (e_ (ag ?_));refine wpAny_isOneOf_keyiter (s:={ s with heap:=s.heap.update it (ky (·.setIfInBounds 1 (dy ((i:Int) + 1)))) }) hit'.typeIs ?_;show ar _ _ (pure es[i].key) _ _ _;exact a_ (a_ ⟨_,rfl,a_ (hQ _ hit' (sq ..))⟩)
theorem ahV{Q:Option aa->af->Prop}(hh:A.handled=none)(hit:s.heap.IsKeyIter it d es.size es.size ep)(hm:oW s.heap d es ep)
  (hQ:∀h',si it s.heap h'->Q none { s with heap:=h' }):ar (ax prog w) A (eD (.ref it)) Q E s:=by
 obtain⟨o,ho,hc,hd⟩:=id hit;obtain⟨od,hod,hcd,hdd⟩:=id hm;unfold eD;refine ag (ja (kD (name:=kF "__next__") hit.typeIs pk (ic pk hit.typeIs F.entry_dict_keyiterator_next ?_ (F.args_dict_keyiterator_next_1 _))));refine ag (a_ (ag (ag (ag ?_))))
 first|refine sj hit.typeIs (a_ ?_)|refine sm hit.typeIs (a_ ?_)
 refine ag (wpAny_fieldsOf ho hd ?_);simp only[show cw.Dict_items.ownsTuple "dict_keyiterator"=false by decide,cn,if_false];show ar _ _ (if (aa.ref d == aa.none)=true then _ else _) _ _ s;rw[if_neg (by intro z;cases z)];refine ag (a_ (ag (wb hod hdd ?_)));rw[if_neg (by simp)];refine ag (a_ (ag (wc hod hdd ?_)));rw[if_neg (by simp)];refine a_ ?_;simp only[show ¬((es.size:Int) < 0) from by lia,if_false,m9,Array.getElem?_eq_none (bz _)];refine ag (ag ?_)
 first|refine sj hit.typeIs (a_ ?_)|refine sm hit.typeIs (a_ ?_)
 show ar _ _ (setField (.ref it) 0 .none >>= _) _ _ s;refine ag (k9 ho hd (by simp) ?_);show ar _ _ (newExc (.type "StopIteration") [] >>= _) _ _ _;refine ag ?_;simp only[newExc,newTuple];refine ag (gz ?_ (by size_fits));refine ag (m:=nN _ _) (jI (a:=aa.none) (by first|rfl|(simp only[nN];rfl)) ?_);refine gz ?_ (by size_fits);simp only[raiseNew];refine ag (v8 ?_);rw[show A.in1.handled=none from hh];refine ag (a_ (qv ?_));refine ag (nL (T:="StopIteration") (b:=true) ⟨_,cy _ rfl,rfl⟩ v_ ?_);exact a_ (hQ _ (((sq ..).extBut.push _).push _))
theorem Vu(hh:A.handled=none)(hne:d≠it) :
  Walks prog w A it [it,d] [it] es.size (fun i v=>∃e,es[i]?=some e/\v=e.key) (fun i h=>h.IsKeyIter it d i es.size ep/\oW h d es ep) where
 sub:=fun b hb=>by simp at hb;simp[hb]
 frame:=fun _ _ _ st hk=>⟨st.1.at fun o e=>hk it (by simp) o e,st.2.go fun o e=>hk d (by simp) o e⟩
 item:=fun i s Q E hi st hQ=>afF st.1 st.2 hi fun h' hI hs=>hQ _ h' s.toks ⟨_,qV hi,rfl⟩ ⟨hI,st.2.go fun o e=>(hs.2 d hne).trans e⟩ fun b o hb e=>(hs.2 b (fun z=>hb (by simp[z]))).trans e
 done:=fun s Q E st hQ=>ahV hh st.1 st.2 fun h' he=>hQ h' s.toks fun b o hb e=>he b o (fun z=>hb (by simp[z])) e
 self:=fun _ _ _ _ st hQ=>wpAny_pyIter_keyiter st.1 hQ
theorem abf{Q:Bool->af->Prop}(hm:oW s.heap d es ep)(h:Q false s):ar (ax prog w) A (cw.List.listLengthHint (.ref d)) Q E s:=by
 unfold cw.List.listLengthHint;refine ag (sf hm.ty F.slot_dict_len.lookup ?_);have e1:splitId "dict.__len__"=some ("dict","__len__"):=by kernel_rfl
 simp only[e1];refine ag (nL (b:=true) hm.ty (by rw[nK];kernel_rfl) ?_);simp only[gp,cn,if_false];have pick:∀{c:Bool}{x y:Sem Bool},c=true->ar (ax prog w) A x Q E s->ar (ax prog w) A (if c=true then x else y) Q E s:=fun {c x y} hc hy=>by rw[hc];exact hy
 refine pick (by decide+kernel) ?_;exact ag (we hm.ty (a_ h))
noncomputable abbrev fV:Obj:=Tb.fV
theorem Vv{D:ae}{Q:List aa->af->Prop}(hh:A.handled=none)(hd:(D == ij)=false)(ho:oW s.heap D es ep)(hn:es.size<=4900)
  (hQ:∀h' tk,(∀b o,s.heap.get? b=some o->h'.get? b=some o)->s.heap.objs.size<=h'.objs.size->Q (es.toList.map (·.key)) { s with heap:=h',toks:=tk }):ar (ax prog w) A (collect (.ref D)) Q E s:=by
 have HD:D < s.heap.objs.size:=by obtain⟨o,e,_⟩:=id ho;exact bE e
 unfold collect;refine ag (wpAny_runValue (j_ F.entry_proto_collect ?_));rw[kH F.plain_proto_collect _];show ar _ A.in1 (newList [] >>= fun l=>again (.builtin "list.__iadd__" ⟨[l,.ref D],[]⟩)) _ _ s;refine ag (gz ?_);refine a_ ⟨ie F.plain_list_iadd _,j_ F.entry_list_iadd ?_⟩;rw[kH F.plain_list_iadd _];have p1:∀b o,s.heap.get? b=some o->(s.heap.push fV).get? b=some o:=fun b o e=>bS _ e;have hD1:oW (s.heap.push fV) D es ep:=ho.go fun o e=>p1 _ _ e;have hS1:(s.heap.push fV).get? s.heap.objs.size=some fV:=cy _ rfl;show ar _ A.in1 (nS (.ref s.heap.objs.size) (.ref D) (.ref s.heap.objs.size)) _ _ _;unfold nS;have hT:af.TypeIs { s with heap:=s.heap.push fV } (.ref D) "dict":=oW.ty (s:={ s with heap:=s.heap.push fV }) hD1;refine ag (we hT ?_);have k1:sx (.ref s.heap.objs.size) (.ref D)=false:=by simp[sx];exact jS HD
 have k2:(aa.type "dict" == aa.type "list")=false:=by decide
 have k3:(aa.type "dict" == aa.type "tuple")=false:=by decide
 simp only[k1,k2,k3,Bool.or_self,cn,if_false];refine ag (abe hd hD1 ?_);have p2:∀b o,(s.heap.push fV).get? b=some o->((s.heap.push fV).push (Qu D 0 es.size ep)).get? b=some o:=fun b o e=>bS _ e;have hD2:oW ((s.heap.push fV).push (Qu D 0 es.size ep)) D es ep:=hD1.go fun o e=>p2 _ _ e;have hS2:=p2 _ _ hS1;have hI2:((s.heap.push fV).push (Qu D 0 es.size ep)).get? (s.heap.push fV).objs.size=some (Qu D 0 es.size ep):=cy _ rfl;have ZG:(s.heap.push fV).objs.size=s.heap.objs.size + 1:=i_ ..;refine ag (e_ (abf hD2 ?_));have pick:∀{c:Bool}{x y:Sem pf}{R:pf->af->Prop}{F':aa->af->Prop}{s':af},c=true->ar (ax prog w) A.in1 x R F' s'->ar (ax prog w) A.in1 (if c=true then x else y) R F' s':=fun {c x y R F' s'} hc hy=>by rw[hc];exact hy
 refine pick (by decide+kernel) ?_;refine ag (f7 ?_);refine ag ?_;show ar _ A.in1 (kK s.heap.objs.size (·.push .none) >>= fun _=>kK s.heap.objs.size (·.pop)) _ _ _;refine ag (iL hS2 rfl ?_);have hS3:=gE (dA (·.push aa.none)) hS2 rfl;refine iL hS3 rfl ?_;have FP:=gE (dA (·.pop)) hS3 rfl;generalize hH:(((s.heap.push fV).push (Qu D 0 es.size ep)).update s.heap.objs.size (dA (·.push aa.none))).update s.heap.objs.size (dA (·.pop))=H at FP;have oth:∀b o,b≠s.heap.objs.size->((s.heap.push fV).push (Qu D 0 es.size ep)).get? b=some o->H.get? b=some o:=fun b o hb e=>by rw[<- hH];exact(eC _ _ (b_ hb)).trans ((eC _ _ (b_ hb)).trans e)
 have W:=(Vu (prog:=prog) (w:=w) (A:=A.in1) (d:=D) (it:=(s.heap.push fV).objs.size) (es:=es) (ep:=ep) (by simpa using hh) (by rw[ZG];exact ck (j8 HD))).toS;have hSf:s.heap.objs.size∉[(s.heap.push fV).objs.size,D]:=by simp only[bP,eT,or_false,not_or];exact⟨by rw[ZG];exact ck (Nat.lt_succ_self _),jS HD⟩
 refine a_ ⟨ie wm _,codeAny_extend_loopS W (by rw[eM];lia) s.heap.objs.size hSf _ es.size 0 _ _ _ rfl (fR _) ⟨Vt (oth _ _ (by rw[ZG];exact Nat.succ_ne_self _) hI2),hD2.go fun o e=>oth _ _ (ck HD) e⟩ FP (pE.nil _) fun s' acc c hm hS' hacc=>?_⟩;show ar _ A (load s.heap.objs.size >>= _) _ _ s';refine ag (wpAny_load hS' ?_);have hacc':acc.toList=es.toList.map (·.key):=by
  apply vF;intro i;rw[cK,ka,ka];cases e:acc[i]? with
  |some v =>
   obtain⟨x,hx,rfl⟩:=hacc.2 i v e;rw[hx];rfl
  |none =>
   have:acc.size<=i:=by simpa using e
   rw[hacc.1]at this;rw[Array.getElem?_eq_none this];rfl
 obtain⟨h',g',d',tk',os'⟩:=s';have eg:g'=s.gens:=hm.gens;have ed:d'=s.drawn:=hm.drawn;have eo:os'=s.os:=hm.os;subst eg ed eo;show ar _ _ (pure acc.toList) _ _ _;rw[hacc'];refine a_ (hQ h' tk' (fun b o e=>hm.heap b o ?_ (oth b o (ck (bE e)) (p2 _ _ (p1 _ _ e)))) (iX (bE hS')));simp only[bP,eT,or_false,not_or];exact⟨ck (bE e),by rw[ZG];exact ck (j8 (bE e))⟩
end
end Dk
namespace Vl
open PySem PySem.Spec L2 So Tb
section
variable{X:Cx}{B:Bs}{W:Wi}{K:ai}
noncomputable def adh(K:ai):List V->Hp->VK->Prop:=fun xs H Q=>∃(a:ae) (U:ae->List Int->Prop) (bw:List (List Int×V)),xs=[.ref a]/\wj H a U bw/\(∀b ks,U b ks->UG K H b ks)/\bw.length < 4900/\(∀p∈bw,p.1≠[]) /\
 ∀l zs,H l=none->zs.length=(cR (bw.map (·.1))).length->(∀(i:Nat) v,zs[i]?=some v->∃b,v=.ref b/\U b ((cR (bw.map (·.1))).getD i []))->Q (.ref l) (upd H l (.lst zs))
theorem qH{U:ae->List Int->Prop}:∀{bw:List (List Int×V)}{xs:List (List Int×ae×aa)},Paired (fun(p:List Int×V) (q:List Int×ae×aa)=>p.1=q.1/\U q.2.1 q.1/\RelV p.2 q.2.2) bw xs ->
  xs.map (·.1)=bw.map (·.1)/\∀x∈xs,U x.2.1 x.1
 | [],_,.nil=>⟨rfl,fun _ h=>by cases h⟩
 |p::bw,q::xs,.cons r t=>by
  obtain⟨e,m⟩:=qH t;refine⟨by rw[cb,cb,e,r.1],fun x hx=>?_⟩;rcases bP.mp hx with rfl|hx
  ·exact r.2.1
  ·exact m x hx
theorem Kf(hc:X.calm=true):gj X (.builtin "sorted") (adh X.K):=by
 intro pins s σ H xs us Q I r h;obtain⟨a,U,bw,rfl,hH,hU,hz,hne,q⟩:=h;obtain⟨u,rfl,rx⟩:=r.one;cases rx;obtain⟨φ,hH,hφ⟩:=hH;obtain⟨o,es,ep,ys,ho,hx,hdat,hsys,hes,hnd,hp⟩:=hφ _ (I.hok _ _ hH).1;obtain⟨ek,hu⟩:=qH hp;have hlen:ys.length=bw.length:=by have:=congrArg il ek;simpa using this
 have hsz:es.size=ys.length:=by have:=congrArg il hes;simpa using this
 have evs:es.toList.map (·.key)=ys.map fun x=>aa.ref x.2.1:=by rw[hes,iF];rfl
 have each:∀(i:Nat) v,(ys.map fun x=>aa.ref x.2.1)[i]?=some v->∃b,v=.ref b/\iA (de X.prog X.w) s.heap ((ys.map (·.1)).getD i []) b/\U b ((ys.map (·.1)).getD i []):=fun i v hv=>by
  rw[cK]at hv;cases e:ys[i]? with
  |none=>rw[e]at hv;cases hv
  |some x =>
   rw[e]at hv;have hg:(ys.map (·.1)).getD i []=x.1:=by rw[f6,cK,e];rfl
   rw[hg];have hux:=hu x (mv e);exact⟨x.2.1,(dk hv).symm,JT I (hU _ _ hux),hux⟩
 have hd0:Dk.oW s.heap a es ep:=⟨o,ho,hx,hdat⟩
 refine So.BR (vs:=ys.map fun x=>aa.ref x.2.1) (bI:=ys.map (·.1)) (fun Q' E' hq=>?_) ⟨by simp,fun i v hv=>let ⟨b,h1,h2,_⟩:=each i v hv;⟨b,h1,h2⟩⟩ (fun ks hks=>?_) (by simp;lia) fun h' tk l n p' k hl' hsp hg=>?_
 ·have:=Dk.Vv (prog:=X.prog) (w:=X.w) (A:=X.A.in1) (E:=E') (Q:=Q') (by simpa using I.ok.hd hc) hsys hd0 (by lia) (by rw[evs];exact hq);exact this
 ·rw[ek]at hks;obtain⟨p,hp',rfl⟩:=eQ.mp hks;exact hne p hp'
 ·have ho':=zF (U:=U) (vs:=ys.map fun x=>aa.ref x.2.1) (bI:=ys.map (·.1)) (Eb:=ys.map (·.1)) ⟨by simp,fun i v hv=>let ⟨b,h1,_,h3⟩:=each i v hv;⟨b,h1,h3⟩⟩ hsp (.refl _);obtain⟨zs,r1,zl,zv⟩:=Ve ho';rw[ek]at zl zv;have Qq:H l=none:=I.hok.fresh hl';refine⟨.ref l,_,I.laid (t':=tk) k hl' (show dW X.prog X.w _ h' _ (.lst zs) from⟨?_,_,n,r1,hg⟩),rfl,q l zs Qq zl zv⟩;have:(cR (bw.map (·.1))).length=(bw.map (·.1)).length:=(gq _).length_eq;rw[zl,this,eM];simp;lia
noncomputable def oE(j:Nat):aH->Rs D:=fun ρ=>match ρ[j]? with
 |some (.od kvs)=>if kvs.length < 4900/\∀p∈kvs,p.1≠[] then .ok (.lst ((cR (kvs.map (·.1))).map aj)) else .no
 |_=>.no
theorem dD.keys{G:Hp}{kvs:List (List Int×D)}{bw:List (List Int×V)}(h:dD K G kvs bw):bw.map (·.1)=kvs.map (·.1):=by
 induction h with
 |nil=>rfl
 |cons r t ih=>rw[cb,cb,ih]
theorem zP(j:Nat) {x:Str}{p p1 pos:Pos}(hc:X.calm=true) (hm:X.mg "sorted"=none) (hN:X.N[j]?=some x:=by rfl) (hv:Ri X.env.scope x:=by first|exact Or.inl rfl|exact Or.inr (Or.inl rfl)|exact Or.inr (Or.inr rfl)) (hd:uN x:=by decide)
  (hcd:Rq x:=by decide) (hg:Gl X "sorted":=by rfl) (he:bg [.Name x p1] X.env=[(false,aS (.Name x p1) X.env)]:=by rfl) :
  SE X B W (.Call (.Name "sorted" p) [.Name x p1] [] pos) (oE j):=by
 refine PE.imp (ql (Kf hc) hg hm PyProof.Rows.boot_sorted (eN (nW hN hv hd hcd) jJ he) (by decide) (by decide) he rfl) fun σ H Q fj=>?_;obtain⟨ρ,G,s,pp⟩:=fj;unfold oE at pp;split at pp
 ·rename_i kvs q;split at pp
  ·rename_i hc2;obtain⟨a,o,h1,h2,h3,h4,U,bw,rfl,hU,hk⟩:=s.own j _ q rfl;have ek:=hk.keys;have el:bw.length=kvs.length:=by have:=congrArg il ek;simpa using this
   refine⟨_,h1,a,U,bw,rfl,Mq h2,fun b ks z=>Same.cV s.en.gh (hU b ks z),by lia,fun p hp=>?_,fun l zs hl hz hv'=>?_⟩
   ·have:p.1∈kvs.map (·.1):=ek▸sC hp;obtain⟨p',hp',e⟩:=eQ.mp this;exact e▸hc2.2 p' hp'
   ·rw[ek]at hz hv';have x:=pC (xs:=zs) s.en.gh s.en.tp hl;refine pp _ _ _ x (bJ.mpr ⟨l,zs,rfl,.of aW,(rC hz fun i v hv2=>?_).mono x.gg⟩);obtain⟨b,e1,e2⟩:=hv' i v hv2;exact⟨b,e1,hU b _ e2⟩
  ·exact pp.elim
 ·exact pp.elim
end
end Vl
namespace Zp
open PySem PySem.Spec
section
variable{prog:aE}{w:az}{A:aI}{E:aa->af->Prop}{s:af}
theorem Kg{it t:ae}{i:Nat}{items:Array aa}{x:aa}{Q:aa->af->Prop}(hit:s.heap.IsTupleIter it t i)(ht:s.heap.IsTuple t items)(hx:items[i]?=some x)
  (hQ:∀h',h'.IsTupleIter it t (i + 1)->fI it s.heap h'->Q x { s with heap:=h' }):ar (ax prog w) A (lS (.ref it)) Q E s:=by
 obtain⟨o,ho,hc,hd⟩:=id hit;obtain⟨ot,hot,_,nt,hdt⟩:=ht;unfold lS;refine ag (kD (name:=kF "__next__") hit.typeIs sD (ic sD hit.typeIs F.entry_tuple_iterator_next ?_ (F.args_tuple_iterator_next_1 _)));refine ag (m:=field (.ref it) 0) (ef ho hd (x:=.ref t) rfl ?_);show ar _ _ (if (aa.ref t == aa.none)=true then _ else _) _ _ s;rw[if_neg (by intro z;cases z)];refine ag (m:=field (.ref it) 1) (ef ho hd (x:=.int i 0) rfl ?_);refine ag (m:=kL (.ref t)) (gu hot hdt ?_);simp only[m9,hx];refine ag (k9 ho hd (by simp) (a_ ⟨x,rfl,a_ (hQ _ ?_ (sq ..))⟩));exact⟨_,gE _ ho (qr (k_ hd _)),(uv ..).trans hc,by rw[k_ hd];simp[dy]⟩
theorem Qv{it t:ae}{i:Nat}{items:Array aa}{Q:aa->af->Prop}(hh:A.handled=none)(hit:s.heap.IsTupleIter it t i)(ht:s.heap.IsTuple t items)(hx:items[i]?=none)
  (hE:∀h' e,si it s.heap h'->(∃o,h'.get? e=some o/\o.cls=.type "StopIteration")->E (.ref e) { s with heap:=h' }):ar (ax prog w) A (lS (.ref it)) Q E s:=by
 obtain⟨o,ho,hc,hd⟩:=id hit;obtain⟨ot,hot,_,nt,hdt⟩:=ht;unfold lS;refine ag (kD (name:=kF "__next__") hit.typeIs sD (ic sD hit.typeIs F.entry_tuple_iterator_next ?_ (F.args_tuple_iterator_next_1 _)));refine ag (m:=field (.ref it) 0) (ef ho hd (x:=.ref t) rfl ?_);show ar _ _ (if (aa.ref t == aa.none)=true then _ else _) _ _ s;rw[if_neg (by intro z;cases z)];refine ag (m:=field (.ref it) 1) (ef ho hd (x:=.int i 0) rfl ?_);refine ag (m:=kL (.ref t)) (gu hot hdt ?_);simp only[m9,hx];refine ag (f7 (ag (k9 ho hd (by simp) ?_)));show ar _ _ (newExc (.type "StopIteration") [] >>= _) _ _ _;refine ag ?_;simp only[newExc,newTuple];refine ag (gz ?_ (by size_fits));refine ag (m:=nN _ _) (jI (a:=aa.none) (by first|rfl|(simp only[nN];rfl)) ?_);refine gz ?_ (by size_fits);simp only[raiseNew];refine ag (v8 ?_)
 first|rw[show A.in1.handled=none from hh]|rw[hh]
 refine ag (a_ (qv ?_));exact hE _ _ (((sq ..).extBut.push _).push _) ⟨_,cy _ rfl,rfl⟩
end
theorem Ed{prog:aE}{w:az}{A:aI}(hh:A.handled=none)(it t:ae)(hne:t≠it)(items:Array aa) :
  Draws prog w A it [it,t] items.size (fun i v=>items[i]?=some v) (fun i h=>h.IsTupleIter it t i/\h.IsTuple t items) where
 live:=fun _ _ st=>let ⟨o,ho,_⟩:=st.1;⟨o,ho⟩
 frame:=fun _ _ _ st hk=>⟨let ⟨o,ho,r⟩:=st.1;⟨o,hk it (by simp) o ho,r⟩,let ⟨o,ho,r⟩:=st.2;⟨o,hk t (by simp) o ho,r⟩⟩
 item:=fun i s Q E hi st hQ=>Kg st.1 st.2 (x:=items[i]) (by simp[hi]) fun h' hit' hs'=>hQ _ h' s.toks (by simp[hi]) ⟨hit',let ⟨o,ho,r⟩:=st.2;⟨o,(hs'.2 t hne).trans ho,r⟩⟩ hs'
 done:=fun s Q E st hE=>Qv hh st.1 st.2 (by simp) hE
structure Ap (z TI TO i1 i2:ae)(f1 f2:List ae):Prop where
 zTI:TI≠z
 zTO:TO≠z
 TT:TI≠TO
 z1:z∉f1
 z2:z∉f2
 o1:TO∉f1
 o2:TO∉f2
 t1:TI∉f1
 t2:TI∉f2
 m1:i1∈f1
 m2:i2∈f2
 c1:i2∉f1
 c2:i1∉f2
section
variable{prog:aE}{w:az}{A:aI}{E:aa->af->Prop}{s:af}{z TI TO i1 i2:ae}{f1 f2:List ae}{n1 n2 k:Nat}{P1 P2:Nat->aa->Prop}{S1 S2:Nat->Heap->Prop}{a b:aa}
theorem Qw{Q:aa->af->Prop}(D1:Draws prog w A i1 f1 n1 P1 S1)(D2:Draws prog w A i2 f2 n2 P2 S2)(p:Ap z TI TO i1 i2 f1 f2)(hz:gx s.heap z TI TO .none)(hTI:eK s.heap TI (.ref i1) (.ref i2))(hTO:eK s.heap TO a b)(h1:S1 k s.heap)(h2:S2 k s.heap)(l1:k < n1)(l2:k < n2)
  (hQ:∀x y h' tk,P1 k x->P2 k y->gx h' z TI TO (dy s.heap.objs.size)->eK h' TO x y->S1 (k + 1) h'->S2 (k + 1) h'->eK h' s.heap.objs.size x y->h'.objs.size=s.heap.objs.size + 1 ->
   (∀c o,c∉[z,TO,i1,i2]->s.heap.get? c=some o->h'.get? c=some o)->Q (.ref s.heap.objs.size) { s with heap:=h',toks:=tk }) :
  ar (ax prog w) A (Builtin.«zip.__next__» ⟨[.ref z],[]⟩) (fun dY s'=>∃v,dY=.done (.ret v)/\Q v s') E s:=by
 have ne1:i1≠z:=fun e=>p.z1 (e▸p.m1);have ne2:i2≠z:=fun e=>p.z2 (e▸p.m2);have no1:i1≠TO:=fun e=>p.o1 (e▸p.m1);have no2:i2≠TO:=fun e=>p.o2 (e▸p.m2);have n12:i1≠i2:=fun e=>p.c2 (e▸p.m2);refine ag (m:=field (.ref z) 2) (ef hz rfl (x:=.bool false) rfl ?_);refine ag (m:=field (.ref z) 3) (ef hz rfl (x:=.ref TI) rfl (ag (gu hTI rfl ?_)));refine ag (m:=sF (.ref z)) ?_;unfold sF;refine ag (ef hz rfl (x:=.none) rfl (a_ ?_));simp only[if_true];refine ag (f7 (ag (ef hz rfl (x:=.ref TO) rfl (ag (kG hz (by simp) fun g1 z1 e1=>?_)))))
 replace z1:gx g1 z TI TO .ellipsis:=z1
 refine ag ?_;simp only[vw,List.zipIdx_nil,uj,uB];have a1:S1 k g1:=D1.frame _ _ _ h1 fun b hb o q=>e1.extBut b o (fun e=>p.z1 (e▸hb)) q;have b1:S2 k g1:=D2.frame _ _ _ h2 fun b hb o q=>e1.extBut b o (fun e=>p.z2 (e▸hb)) q;refine ag (ag (wo ?_));refine ag (m:=lS (.ref i1)) (D1.item k _ _ _ l1 a1 fun x g2 tk2 px a2 e2=>a_ ?_)
 replace e2:fI i1 g1 g2:=e2
 have t2:eK g2 TO a b:=e2.extBut _ _ (b_ no1) (e1.extBut _ _ p.zTO hTO);refine ag (gu (s:={ s with heap:=g2,toks:=tk2 }) t2 rfl (ag (wpAny_updateSeq_pair (s:={ s with heap:=g2,toks:=tk2 }) t2 fun g3 t3 e3=>?_)))
 replace t3:eK g3 TO x b:=t3
 replace e3:fI TO g2 g3:=e3
 refine ag (iN (a_ ?_));have b3:S2 k g3:=D2.frame _ _ _ b1 fun b hb o q=>e3.extBut b o (fun e=>p.o2 (e▸hb)) (e2.extBut b o (fun e=>p.c2 (e▸hb)) q);refine ag (ag (wo ?_));refine ag (m:=lS (.ref i2)) (D2.item k _ _ _ l2 b3 fun y g4 tk4 py b4 e4=>a_ ?_)
 replace e4:fI i2 g3 g4:=e4
 have t4:eK g4 TO x b:=e4.extBut _ _ (b_ no2) t3;refine ag (gu (s:={ s with heap:=g4,toks:=tk4 }) t4 rfl (ag (wpAny_updateSeq_pair (s:={ s with heap:=g4,toks:=tk4 }) t4 fun g5 t5 e5=>?_)))
 replace t5:eK g5 TO x y:=t5
 replace e5:fI TO g4 g5:=e5
 refine ag (iN (a_ (a_ ?_)));refine ag (gu (s:={ s with heap:=g5,toks:=tk4 }) t5 rfl (ag (wpAny_newTuple ?_)));have sz:g5.objs.size=s.heap.objs.size:=by rw[e5.1,e4.1,e3.1,e2.1,e1.1]
 have z5:gx g5 z TI TO .ellipsis:=e5.extBut _ _ (b_ p.zTO) (e4.extBut _ _ (b_ ne2) (e3.extBut _ _ (b_ p.zTO) (e2.extBut _ _ (b_ ne1) z1)));have kp:∀c o,c∉[z,TO,i1,i2]->s.heap.get? c=some o->g5.get? c=some o:=fun c o hc q=>by simp only[bP,eT,or_false,not_or]at hc;exact e5.extBut _ _ hc.2.1 (e4.extBut _ _ hc.2.2.2 (e3.extBut _ _ hc.2.1 (e2.extBut _ _ hc.2.2.1 (e1.extBut _ _ hc.1 q))))
 have a5:S1 (k + 1) g5:=D1.frame _ _ _ a2 fun b hb o q=>e5.extBut b o (fun e=>p.o1 (e▸hb)) (e4.extBut b o (fun e=>p.c1 (e▸hb)) (e3.extBut b o (fun e=>p.o1 (e▸hb)) q));have b5:S2 (k + 1) g5:=D2.frame _ _ _ b4 fun b hb o q=>e5.extBut b o (fun e=>p.o2 (e▸hb)) q;have lz:z < g5.objs.size:=bE z5;refine ag (m:=cw.SmallTypes.ownedTupleHandOut (.ref z) (.ref g5.objs.size)) ?_;unfold cw.SmallTypes.ownedTupleHandOut;have z6:gx (g5.push { cls:=.type "tuple",data:=.seq #[x,y] }) z TI TO .ellipsis:=bS _ z5;refine ag (kG (s:={ s with heap:=g5.push { cls:=.type "tuple",data:=.seq #[x,y] },toks:=tk4 }) z6 (by simp) fun g7 z7 e7=>?_)
 replace z7:gx g7 z TI TO (dy g5.objs.size):=z7
 refine kG (s:={ s with heap:=g7,toks:=tk4 }) z7 (by simp) fun g8 z8 e8=>?_
 replace z8:gx g8 z TI TO (dy g5.objs.size):=z8
 have up:∀c o,c≠z->g5.get? c=some o->g8.get? c=some o:=fun c o hc q=>e8.extBut _ _ hc (e7.extBut _ _ hc (bS _ q));have t8:eK g8 g5.objs.size x y:=e8.extBut _ _ (jS lz) (e7.extBut _ _ (jS lz) (cy _ rfl));have s8:g8.objs.size=g5.objs.size + 1:=by rw[e8.1,e7.1,i_]
 rw[sz]at z8 t8 s8;refine a_ ⟨_,rfl,?_⟩;show Q (.ref g5.objs.size) _;rw[sz];exact hQ x y g8 tk4 px py z8 (up _ _ p.zTO t5) (D1.frame _ _ _ a5 fun b hb o q=>up b o (fun e=>p.z1 (e▸hb)) q) (D2.frame _ _ _ b5 fun b hb o q=>up b o (fun e=>p.z2 (e▸hb)) q) t8 s8 fun c o hc q=>up c o (fun e=>hc (by simp[e])) (kp c o hc q)
theorem Vw{Q:pf->af->Prop}(D1:Draws prog w A i1 f1 n1 P1 S1)(p:Ap z TI TO i1 i2 f1 f2)(hz:gx s.heap z TI TO .none)(hTI:eK s.heap TI (.ref i1) (.ref i2))(hTO:eK s.heap TO a b)(h1:S1 n1 s.heap)
  (hE:∀h' e,(∀c o,c∉[z,TO,i1,i2]->s.heap.get? c=some o->h'.get? c=some o)->(∃o,h'.get? e=some o/\o.cls=.type "StopIteration")->E (.ref e) { s with heap:=h' }) :
  ar (ax prog w) A (Builtin.«zip.__next__» ⟨[.ref z],[]⟩) Q E s:=by
 have ne1:i1≠z:=fun e=>p.z1 (e▸p.m1);refine ag (m:=field (.ref z) 2) (ef hz rfl (x:=.bool false) rfl ?_);refine ag (m:=field (.ref z) 3) (ef hz rfl (x:=.ref TI) rfl (ag (gu hTI rfl ?_)));refine ag (m:=sF (.ref z)) ?_;unfold sF;refine ag (ef hz rfl (x:=.none) rfl (a_ ?_));simp only[if_true];refine ag (f7 (ag (ef hz rfl (x:=.ref TO) rfl (ag (kG hz (by simp) fun g1 z1 e1=>?_)))))
 replace z1:gx g1 z TI TO .ellipsis:=z1
 refine ag ?_;simp only[vw,List.zipIdx_nil,uj,uB];have a1:S1 n1 g1:=D1.frame _ _ _ h1 fun b hb o q=>e1.extBut b o (fun e=>p.z1 (e▸hb)) q;refine ag (ag (wo ?_));refine ag (m:=lS (.ref i1)) (D1.done _ _ _ a1 fun g2 e e2 he=>?_);obtain⟨oe,q1,q2⟩:=he;have z2:gx g2 z TI TO .ellipsis:=e2 _ _ (b_ ne1) z1;have ez:e≠z:=fun x=>by subst x;rw[z2]at q1;cases q1;simp at q2
 refine kG (s:={ s with heap:=g2 }) z2 (by simp) fun g3 _ e3=>hE g3 e (fun c o hc q=>?_) ⟨oe,e3.extBut _ _ ez q1,q2⟩;simp only[bP,eT,or_false,not_or]at hc;exact e3.extBut _ _ hc.1 (e2 _ _ hc.2.2.1 (e1.extBut _ _ hc.1 q))
end
theorem walks{prog:aE}{w:az}{A:aI}{z TI TO i1 i2:ae}{f1 f2:List ae}{n:Nat}{P1 P2:Nat->aa->Prop}{S1 S2:Nat->Heap->Prop}(D1:Draws prog w A.in1 i1 f1 n P1 S1)(D2:Draws prog w A.in1 i2 f2 n P2 S2)(p:Ap z TI TO i1 i2 f1 f2) :
    WalksT prog w A z (z::TI::TO::(f1++f2)) [z,TO,i1,i2] n
      (fun i vals=>∃x y,P1 i x/\P2 i y/\vals=#[x,y])
      (fun i h=>gx h z TI TO .none/\eK h TI (.ref i1) (.ref i2)/\(∃a b,eK h TO a b)/\S1 i h/\S2 i h)
      (fun i T h=>gx h z TI TO (dy T)/\eK h TI (.ref i1) (.ref i2)/\(∃a b,eK h TO a b)/\S1 (i + 1) h/\S2 (i + 1) h/\T∉[z,TO,i1,i2]) where
  sub:=fun b hb=>by
    simp only[bP,eT,or_false,dQ]at hb ⊢;rcases hb with rfl|rfl|rfl|rfl
    . exact .inl rfl
    . exact .inr (.inr (.inl rfl))
    . exact .inr (.inr (.inr (.inl p.m1)))
    . exact .inr (.inr (.inr (.inr p.m2)))
  frame:=fun i h h' st hk=>by obtain⟨q1,q2,⟨a,b,q3⟩,q4,q5⟩:=st;exact⟨hk z (by simp) _ q1,hk TI (by simp) _ q2,⟨a,b,hk TO (by simp) _ q3⟩,D1.frame _ _ _ q4 fun b hb o q=>hk b (by simp[hb]) o q,D2.frame _ _ _ q5 fun b hb o q=>hk b (by simp[hb]) o q⟩
  item:=fun i s Q E hi st hQ=>by
    obtain⟨q1,q2,⟨a,b,q3⟩,q4,q5⟩:=st;have hT:s.TypeIs (.ref z) "zip":=⟨_,q1,rfl⟩
    have TIw:TI∉[z,TO,i1,i2]:=by simp only[bP,eT,or_false,not_or];exact⟨p.zTI,p.TT,fun e=>p.t1 (e▸p.m1),fun e=>p.t2 (e▸p.m2)⟩
    unfold eD;refine ag (ja (kD (name:=kF "__next__") hT sL (ic sL hT F.entry_zip_next (Qw D1 D2 p q1 q2 q3 q4 q5 hi hi fun x y h' tk px py r1 r2 r3 r4 r5 r6 r7=>a_ ?_) (F.args_zip_next_1 _))));have fr:∀{c:ae}{o:Obj},s.heap.get? c=some o->s.heap.objs.size≠c:=fun e=>jS (bE e);refine hQ s.heap.objs.size #[x,y] h' tk ⟨x,y,px,py,rfl⟩ (bz _) ⟨_,r5,rfl,_,rfl⟩ ⟨r1,r7 TI _ TIw q2,⟨_,_,r2⟩,r3,r4,?_⟩ r7;simp only[bP,eT,or_false,not_or];obtain⟨o1,l1⟩:=D1.live _ _ q4;obtain⟨o2,l2⟩:=D2.live _ _ q5;exact⟨fr q1,fr q3,fr l1,fr l2⟩
  go:=fun elts k pos i T s Q E hm hQ=>by obtain⟨q1,q2,⟨a,b,q3⟩,q4,q5,_⟩:=hm;refine wpAny_letOwnedTupleGo_zip q1 fun h' z' e'=>hQ h' ⟨z',e'.extBut _ _ p.zTI q2,⟨a,b,e'.extBut _ _ p.zTO q3⟩,D1.frame _ _ _ q4 fun b hb o q=>e'.extBut b o (fun e=>p.z1 (e▸hb)) q,D2.frame _ _ _ q5 fun b hb o q=>e'.extBut b o (fun e=>p.z2 (e▸hb)) q⟩ fun c o hc q=>e'.extBut _ _ (fun e=>hc (by simp[e])) q
  apart:=fun i T h hm=>hm.2.2.2.2.2
  done := fun s Q E st hQ => by
    obtain⟨q1,q2,⟨a,b,q3⟩,q4,q5⟩:=st;have hT:s.TypeIs (.ref z) "zip":=⟨_,q1,rfl⟩
    unfold eD;refine ag (ja (kD (name:=kF "__next__") hT sL (ic sL hT F.entry_zip_next (Vw D1 p q1 q2 q3 q4 fun h' e kk he=>?_) (F.args_zip_next_1 _))));obtain⟨o,ho,hc⟩:=he;refine ag (nL (T:="StopIteration") (b:=true) ⟨o,ho,hc⟩ v_ ?_);exact a_ (hQ h' s.toks kk)
  self:=fun i s Q E st hQ=>wq st.1 hQ
noncomputable abbrev tit(t:ae):Obj:={ cls:=.type "tuple_iterator",data:=.fields #[.ref t,.int 0 0] }
noncomputable abbrev duo(x y:aa):Obj:={ cls:=.type "tuple",data:=.seq #[x,y] }
noncomputable abbrev h1(h:Heap)(a:ae):Heap:=h.push (tit a)
noncomputable abbrev h2(h:Heap)(a b:ae):Heap:=(h1 h a).push (tit b)
noncomputable abbrev h3(h:Heap)(a b:ae):Heap:=(h2 h a b).push (duo (.ref h.objs.size) (.ref (h1 h a).objs.size))
noncomputable abbrev h4(h:Heap)(a b:ae):Heap:=(h3 h a b).push (duo .none .none)
noncomputable abbrev h5(h:Heap)(a b:ae):Heap:=(h4 h a b).push { cls:=.type "zip",data:=.fields #[.none,.bool false,.bool false,.ref (h2 h a b).objs.size,.ref (h3 h a b).objs.size] }
theorem Qx(a b:ae)(xs ys:Array aa) :
  Meets (Builtin.«zip.__new__» ⟨[.type "zip",.ref a,.ref b],[]⟩) (fun _ R s=>s.heap.IsTuple a xs/\s.heap.IsTuple b ys/\R (.ok (.ret (.ref (h4 s.heap a b).objs.size))) { s with heap:=h5 s.heap a b }) :=
 .of_wp fun prog w A R s h=>by
  obtain⟨hp,g,d,tk,os⟩:=s;obtain⟨ha,hb,h⟩:=h;have hsub:=sub_zip;have A1:Heap.IsTuple (af.heap ⟨hp,g,d,tk,os⟩) a xs:=ha;have B1:Heap.IsTuple (af.heap ⟨hp.push { cls:=.type "tuple_iterator",data:=.fields #[.ref a,.int 0 0] },g,d,tk,os⟩) b ys:=let ⟨o,e,r⟩:=hb;⟨o,bS _ e,r⟩
  wp_walk using tf A1,tf B1
  exact⟨_,rfl,h⟩
section
variable{prog:aE}{w:az}{A:aI}{E:aa->af->Prop}{s:af}
theorem Qy{a b:ae}{xs ys:Array aa}{Q:aa->af->Prop}(ha:s.heap.IsTuple a xs)(hb:s.heap.IsTuple b ys)
  (h:∀h',gx h' (s.heap.objs.size + 4) (s.heap.objs.size + 2) (s.heap.objs.size + 3) .none->eK h' (s.heap.objs.size + 2) (.ref s.heap.objs.size) (.ref (s.heap.objs.size + 1))->eK h' (s.heap.objs.size + 3) .none .none ->
   h'.IsTupleIter s.heap.objs.size a 0->h'.IsTupleIter (s.heap.objs.size + 1) b 0->(∀c o,s.heap.get? c=some o->h'.get? c=some o)->Q (.ref (s.heap.objs.size + 4)) { s with heap:=h' }) :
  ar (ax prog w) A (call (.type "zip") [.ref a,.ref b]) Q E s:=by
 refine callType_new F.called_zip (by decide) (F.typeCall_zip_2 _ _) (F.newCall_zip_2 _ _) (fun obj=>F.args_object_init_3 obj _ _) F.entry_zip_new (Qx a b xs ys) ⟨ha,hb,?_⟩;have z1:(h1 s.heap a).objs.size=s.heap.objs.size + 1:=i_ ..;have z2:(h2 s.heap a b).objs.size=s.heap.objs.size + 2:=by show((h1 s.heap a).push _).objs.size=_;rw[i_,z1]
 have z3:(h3 s.heap a b).objs.size=s.heap.objs.size + 3:=by show((h2 s.heap a b).push _).objs.size=_;rw[i_,z2]
 have z4:(h4 s.heap a b).objs.size=s.heap.objs.size + 4:=by show((h3 s.heap a b).push _).objs.size=_;rw[i_,z3]
 have k5:∀c o,(h4 s.heap a b).get? c=some o->(h5 s.heap a b).get? c=some o:=fun c o e=>bS _ e;have k4:∀c o,(h3 s.heap a b).get? c=some o->(h5 s.heap a b).get? c=some o:=fun c o e=>k5 c o (bS _ e);have k3:∀c o,(h2 s.heap a b).get? c=some o->(h5 s.heap a b).get? c=some o:=fun c o e=>k4 c o (bS _ e);have k2:∀c o,(h1 s.heap a).get? c=some o->(h5 s.heap a b).get? c=some o:=fun c o e=>k3 c o (bS _ e);have g5:(h5 s.heap a b).get? (s.heap.objs.size + 4)=some { cls:=.type "zip",data:=.fields #[.none,.bool false,.bool false,.ref (h2 s.heap a b).objs.size,.ref (h3 s.heap a b).objs.size] }:=by rw[<- z4];exact cy _ rfl
 have g4:(h5 s.heap a b).get? (s.heap.objs.size + 3)=some (duo .none .none):=by rw[<- z3];exact k5 _ _ (cy _ rfl)
 have g3:(h5 s.heap a b).get? (s.heap.objs.size + 2)=some (duo (.ref s.heap.objs.size) (.ref (h1 s.heap a).objs.size)):=by rw[<- z2];exact k4 _ _ (cy _ rfl)
 have g2:(h5 s.heap a b).get? (s.heap.objs.size + 1)=some (tit b):=by rw[<- z1];exact k3 _ _ (cy _ rfl)
 have g1:(h5 s.heap a b).get? s.heap.objs.size=some (tit a):=k2 _ _ (cy _ rfl);rw[z2,z3]at g5;rw[z1]at g3;show _/\_;rw[z4];exact⟨⟨_,g5,rfl⟩,h _ g5 g3 g4 ⟨_,g1,rfl,rfl⟩ ⟨_,g2,rfl,rfl⟩ fun c o e=>k2 c o (bS _ e)⟩
end
end Zp
namespace L2
open PySem PySem.Spec PyProof.Rows
theorem Ef{X:Cx}{pins:List (ae×Obj)}{σ:St}{H:Hp}{s:af}{a b:ae}{xs:List V}(I:Inv X pins σ H s)(hf:mj X pins H b)(hq:jT X.K H a xs):a≠b:=fun e=>by
 subst e;rcases hq with (q|⟨o,q⟩)|⟨o,its,n,q,_⟩
 ·rw[hf.1]at q;cases q
 ·rw[hf.1]at q;cases q
 ·have hb:=I.mod.Rt a o q;rcases hf.2.2.2.1 with z|z
  ·exact I.ok.Cy a o hb z
  ·exact absurd (dm (bE (I.ok.bs a o hb).1) z) (fw _)
noncomputable def Itz(K:ai)(a b:ae)(n:Nat):It :=
  ⟨fun i H=>i < n/\∃xs ys,jT K H a xs/\jT K H b ys/\xs.length=n/\ys.length=n,
   fun i H v H'=>∃T x y,H T=none/\v=.ref T/\H'=upd H T (.tup [x,y])/\(∀xs,jT K H a xs->xs[i]?=some x)/\∀ys,jT K H b ys->ys[i]?=some y,
   fun i H=>n<=i/\∃xs ys,jT K H a xs/\jT K H b ys/\xs.length=n/\ys.length=n⟩
theorem Vx{P:aE}{w:az}{K:ai}{elts:List ah}{kx:Nat}{tp:Pos}(a b z TI TO i1 i2:ae)(n:Nat)(d1:TI≠z)(d2:TO≠z)(d3:TI≠TO)(d4:z≠i1)(d5:z≠i2)(d6:TO≠i1)(d7:TO≠i2)(d8:TI≠i1)(d9:TI≠i2)(d0:i1≠i2) :
    Turn P w K (.Tuple elts kx tp) (Itz K a b n) [z,TI,TO,i1,i2] z (fun i h=>i<=n/\gx h z TI TO .none/\eK h TI (.ref i1) (.ref i2)/\(∃x y,eK h TO x y)/\h.IsTupleIter i1 a i/\h.IsTupleIter i2 b i) where
  mem:=by simp
  obj:=fun i h st c hc=>by
    obtain⟨_,q1,q2,⟨x,y,q3⟩,⟨o4,q4,_,e4⟩,⟨o5,q5,_,e5⟩⟩:=st;simp only[bP,eT,or_false]at hc;rcases hc with rfl|rfl|rfl|rfl|rfl
    . exact⟨_,q1,fun v q=>by have q':Data.fields _=Data.cell v:=q;cases q'⟩
    . exact⟨_,q2,fun v q=>by have q':Data.seq _ _=Data.cell v:=q;cases q'⟩
    . exact⟨_,q3,fun v q=>by have q':Data.seq _ _=Data.cell v:=q;cases q'⟩
    . exact⟨o4,q4,fun v q=>by rw[e4]at q;cases q⟩
    . exact⟨o5,q5,fun v q=>by rw[e5]at q;cases q⟩
  keep:=fun i h h' st k=>by obtain⟨q0,q1,q2,⟨x,y,q3⟩,⟨o4,q4,r4⟩,⟨o5,q5,r5⟩⟩:=st;exact⟨q0,k z (by simp) _ q1,k TI (by simp) _ q2,⟨x,y,k TO (by simp) _ q3⟩,⟨o4,k i1 (by simp) _ q4,r4⟩,⟨o5,k i2 (by simp) _ q5,r5⟩⟩
  item:=by
    intro X hP hw hK hc i pins s σ H E I hf st hg;subst hP hw hK;obtain⟨hlt,xs,ys,qa,qb,lx,ly⟩:=hg;obtain⟨q0,q1,q2,q3,q4,q5⟩:=id st;obtain⟨ia,va,pa,_⟩:=I.tuple qa;obtain⟨ib,vb,pb,_⟩:=I.tuple qb;have sa:ia.toArray.size=n:=by rw[cE,<- va.length,lx]
    have sb:ib.toArray.size=n:=by rw[cE,<- vb.length,ly]
    have na:∀c∈[z,TI,TO,i1,i2],a≠c:=fun c hc'=>Ef I (hf c hc') qa;have nb:∀c∈[z,TI,TO,i1,i2],b≠c:=fun c hc'=>Ef I (hf c hc') qb;have D1:=Zp.Ed (prog:=X.prog) (w:=X.w) (A:=X.A.in1) (by simpa using I.ok.hd hc) i1 a (na _ (by simp)) ia.toArray;have D2:=Zp.Ed (prog:=X.prog) (w:=X.w) (A:=X.A.in1) (by simpa using I.ok.hd hc) i2 b (nb _ (by simp)) ib.toArray;rw[sa]at D1;rw[sb]at D2;have ap:Zp.Ap z TI TO i1 i2 [i1,a] [i2,b]:=by
      refine⟨d1,d2,d3,?_,?_,?_,?_,?_,?_,by simp,by simp,?_,?_⟩ <;> simp only[bP,eT,or_false,not_or]
      . exact⟨d4,b_ (na _ (by simp))⟩
      . exact⟨d5,b_ (nb _ (by simp))⟩
      . exact⟨d6,b_ (na _ (by simp))⟩
      . exact⟨d7,b_ (nb _ (by simp))⟩
      . exact⟨d8,b_ (na _ (by simp))⟩
      . exact⟨d9,b_ (nb _ (by simp))⟩
      . exact⟨b_ d0,b_ (na _ (by simp))⟩
      . exact⟨d0,b_ (nb _ (by simp))⟩
    have W:=Zp.walks (A:=X.A) D1 D2 ap;refine W.item i s _ _ hlt ⟨q1,q2,q3,⟨q4,pa⟩,q5,pb⟩ fun T vals g1 tk hv hT tup mid kk=>?_;obtain⟨x',y',hx,hy,rfl⟩:=hv;have sub:∀c∈[z,TO,i1,i2],mj X pins H c:=fun c hc'=>hf c (by simp only[bP,eT,or_false]at hc' ⊢;rcases hc' with h|h|h|h <;> simp[h]);have lxi:i < xs.length:=by lia
    have lyi:i < ys.length:=by lia
    obtain⟨u,hu,ru⟩:=va.get (du lxi);obtain⟨v,hv2,rv⟩:=vb.get (du lyi);have ex:x'=u:=by
      have:ia[i]?=some x':=by simpa using hx
      rw[hu]at this;exact(dk this).symm
    have ey:y'=v:=by
      have:ib[i]?=some y':=by simpa using hy
      rw[hv2]at this;exact(dk this).symm
    subst ex ey;refine⟨.ref T,rfl,W.go elts kx tp i T _ _ _ mid fun g2 st2 kk2=>?_⟩;have tw:T∉[z,TO,i1,i2]:=W.apart _ _ _ mid;have I2:Inv X pins σ (upd H T (.tup [xs[i],ys[i]])) { s with heap:=g2,toks:=tk }:=by refine I.Vs (ch:=[z,TO,i1,i2]) (fun c o hc' q=>kk2 c o hc' (kk c o hc' q)) sub hT ?_;obtain⟨o,ho,hoc,m,hod⟩:=tup;exact⟨by show 2<=sizeLine;decide,[x',y'],.cons ru (.cons rv .nil),o,kk2 T o tw ho,hoc,m,hod⟩
    have nT:∀c∈[z,TI,TO,i1,i2],c≠T:=fun c hc' e=>by
      subst e;obtain⟨o,ho,_⟩:∃o,s.heap.get? c=some o/\True:=by
        obtain⟨x,y,q3'⟩:=q3;obtain⟨o4,q4',_⟩:=q4;obtain⟨o5,q5',_⟩:=q5;simp only[bP,eT,or_false]at hc';rcases hc' with rfl|rfl|rfl|rfl|rfl
        . exact⟨_,q1,trivial⟩
        . exact⟨_,q2,trivial⟩
        . exact⟨_,q3',trivial⟩
        . exact⟨_,q4',trivial⟩
        . exact⟨_,q5',trivial⟩
      exact absurd (dm (bE ho) hT) (fw _)
    refine⟨.ref T,_,I2,rfl,⟨T,xs[i],ys[i],I.hok.fresh hT,rfl,rfl,fun zs hz=>by rw[I.oK hz qa];exact du lxi,fun zs hz=>by rw[I.oK hz qb];exact du lyi⟩,⟨hlt,st2.1,st2.2.1,st2.2.2.1,st2.2.2.2.1.1,st2.2.2.2.2.1⟩,fun c hc'=>?_⟩;rw[aK (nT c hc')];exact(hf c hc').1
  done := by
    intro X hP hw hK hc i pins s σ H E I hf st hg;subst hP hw hK;obtain⟨hge,xs,ys,qa,qb,lx,ly⟩:=hg;obtain⟨q0,q1,q2,q3,q4,q5⟩:=id st;have ei:i=n:=by lia
    subst ei;obtain⟨ia,va,pa,_⟩:=I.tuple qa;obtain⟨ib,vb,pb,_⟩:=I.tuple qb;have sa:ia.toArray.size=i:=by rw[cE,<- va.length,lx]
    have sb:ib.toArray.size=i:=by rw[cE,<- vb.length,ly]
    have na:∀c∈[z,TI,TO,i1,i2],a≠c:=fun c hc'=>Ef I (hf c hc') qa;have nb:∀c∈[z,TI,TO,i1,i2],b≠c:=fun c hc'=>Ef I (hf c hc') qb;have D1:=Zp.Ed (prog:=X.prog) (w:=X.w) (A:=X.A.in1) (by simpa using I.ok.hd hc) i1 a (na _ (by simp)) ia.toArray;have D2:=Zp.Ed (prog:=X.prog) (w:=X.w) (A:=X.A.in1) (by simpa using I.ok.hd hc) i2 b (nb _ (by simp)) ib.toArray;rw[sa]at D1;rw[sb]at D2;have ap:Zp.Ap z TI TO i1 i2 [i1,a] [i2,b]:=by
      refine⟨d1,d2,d3,?_,?_,?_,?_,?_,?_,by simp,by simp,?_,?_⟩ <;> simp only[bP,eT,or_false,not_or]
      . exact⟨d4,b_ (na _ (by simp))⟩
      . exact⟨d5,b_ (nb _ (by simp))⟩
      . exact⟨d6,b_ (na _ (by simp))⟩
      . exact⟨d7,b_ (nb _ (by simp))⟩
      . exact⟨d8,b_ (na _ (by simp))⟩
      . exact⟨d9,b_ (nb _ (by simp))⟩
      . exact⟨b_ d0,b_ (na _ (by simp))⟩
      . exact⟨d0,b_ (nb _ (by simp))⟩
    have W:=Zp.walks (A:=X.A) D1 D2 ap;have sub:∀c∈[z,TO,i1,i2],mj X pins H c:=fun c hc'=>hf c (by simp only[bP,eT,or_false]at hc' ⊢;rcases hc' with h|h|h|h <;> simp[h]);exact W.done s _ _ ⟨q1,q2,q3,⟨q4,pa⟩,q5,pb⟩ fun h' tk kk=>⟨rfl,I.pI (t':=tk) (ch:=[z,TO,i1,i2]) kk sub⟩
  self:=fun _ _ _ _ _ st h=>wq st.2.1 h
section
variable{X:Cx}
noncomputable def ahX(K:ai)(ta:TA):TI:=fun σ H R=>ta σ H fun vs H1=>∃a b xs ys,vs=[.ref a,.ref b]/\jT K H1 a xs/\jT K H1 b ys/\xs.length=ys.length/\R (Itz K a b xs.length) H1
theorem Vy:gT "zip"=some (.type "zip"):=by decide+kernel
theorem adk{l1 l2:ah}{ta:TA}{p pos:Pos}{elts:List ah}{kx:Nat}{tp:Pos}(hg:Gl X "zip") (hm:X.mg "zip"=none) (ha:PA X [l1,l2] ta) (hs:bg [l1,l2] X.env=[(false,aS l1 X.env),(false,aS l2 X.env)]:=by rfl) (hs2:bg [l2] X.env=[(false,aS l2 X.env)]:=by rfl) :
  PI X (.Tuple elts kx tp) (.Call (.Name "zip" p) [l1,l2] [] pos) (ahX X.K ta):=by
 intro pins s σ H R I h;refine Call_ (qj I hg hm Vy (oj (iK (ha pos pins s σ H _ I h) fun us s1 ⟨vs,H1,I1,r1,q1⟩=>?_) (by rw[hs,hs2]) (by rw[hs2];rfl)));obtain⟨a,b,xs,ys,e,qa,qb,hl,q⟩:=q1;subst e;obtain⟨u,v,rfl,ru,rv⟩:=Mi r1;cases ru;cases rv;obtain⟨ia,va,pa,_⟩:=I1.tuple qa;obtain⟨ib,vb,pb,_⟩:=I1.tuple qb;refine Zp.Qy (show s1.heap.IsTuple a ia.toArray from pa) (show s1.heap.IsTuple b ib.toArray from pb) fun h' q1 q2 q3 q4 q5 kk=>wq q1 ?_;refine⟨s1.heap.objs.size + 4,[s1.heap.objs.size + 4,s1.heap.objs.size + 2,s1.heap.objs.size + 3,s1.heap.objs.size,s1.heap.objs.size + 1],_,Itz X.K a b xs.length,H1,rfl,I1.kept (t':=s1.toks) kk,
  Vx a b _ _ _ _ _ xs.length ?_ ?_ ?_ ?_ ?_ ?_ ?_ ?_ ?_ ?_,⟨fR _,q1,q2,⟨_,_,q3⟩,q4,q5⟩,fun c hc=>?_,q⟩
 iterate 10 (intro z;have:=congrArg (fun(n:Nat)=>n) z;revert this;generalize (s1.heap.objs.size:Nat)=m;intro this;lia)
 have hc':s1.heap.objs.size<=c:=by
  simp only[bP,eT,or_false]at hc;rcases hc with rfl|rfl|rfl|rfl|rfl
  ·exact sM _ _
  ·exact sM _ _
  ·exact sM _ _
  ·exact bz _
  ·exact sM _ _
 exact I1.CJ hc' (I1.hok.fresh hc')
end
end L2
namespace Vl
open PySem PySem.Spec L2
section
variable{X:Cx}{B:Bs}{W:Wi}{K:ai}{G:Hp}
noncomputable def Eh(ds es:List D):List D:=(ds.zip es).map fun p=>.tup [p.1,p.2]
theorem adl{a b:ae}{ds es:List D}{vs us:List V}(qa:jT K G a vs)(qb:jT K G b us)(ra:bF K G ds vs)(rb:bF K G es us)(hl:ds.length=es.length):Yl K (Itz K a b vs.length) (Eh ds es) G:=by
 intro i G1 H1 gg e;have la:=ra.length;have lb:=rb.length;have q1:=Same.cV e.gh (Same.cV gg qa);have q2:=Same.cV e.gh (Same.cV gg qb);have lz:(Eh ds es).length=vs.length:=by unfold Eh;rw[cx,List.length_zip];lia
 refine⟨fun d hd=>?_,fun hge=>⟨by rw[<- lz];exact hge,vs,us,q1,q2,rfl,by lia⟩⟩;have hlt:i < vs.length:=by rw[<- lz];exact(df.mp hd).1
 have hd1:ds[i]?=some (ds[i]'(by lia)):=du (by lia);have hd2:es[i]?=some (es[i]'(by lia)):=du (by lia);have ed:d=.tup [ds[i]'(by lia),es[i]'(by lia)]:=by unfold Eh at hd;rw[cK,List.getElem?_zip_eq_some (z:=(ds[i]'(by lia),es[i]'(by lia))) |>.mpr ⟨hd1,hd2⟩]at hd;exact(dk hd).symm
 subst ed;obtain⟨x,hx,rx⟩:=ra.get hd1;obtain⟨y,hy,ry⟩:=rb.get hd2;refine⟨⟨hlt,vs,us,q1,q2,rfl,by lia⟩,fun v H2 yl=>?_⟩;obtain⟨T,x',y',hT,rfl,rfl,y1,y2⟩:=yl;have e1:=y1 vs q1;have e2:=y2 us q2;rw[hx]at e1;rw[hy]at e2;cases e1;cases e2;have x2:=tY (xs:=[x,y]) e.gh e.tp hT;exact⟨_,e.trans x2,bR.mpr ⟨T,_,rfl,.inl (.of aW),aO.mpr ⟨_,_,rfl,(rx.mono gg).mono x2.gg,bF.one ((ry.mono gg).mono x2.gg)⟩⟩⟩
noncomputable def asZ:List D->Rs (List D)
 | [.tup ds,.tup es]=>if ds.length=es.length then .ok (Eh ds es) else .no
 |_=>.no
theorem adn{e e':ah}{p1 p2:Pos}{elts:List ah}{kx:Nat}{tp:Pos}{f f':aH->Rs D}(hm:X.mg "zip"=none) (hi:SE X B W e f) (hi':SE X B W e' f') (hgl:Gl X "zip":=by rfl) (hst:bg [e,e'] X.env=[(false,aS e X.env),(false,aS e' X.env)]:=by rfl) (hst2:bg [e'] X.env=[(false,aS e' X.env)]:=by rfl) :
  SI X B W (.Tuple elts kx tp) (.Call (.Name "zip" p1) [e,e'] [] p2) (fL2 (ak f (ak f' aZ)) asZ):=by
 refine PI.imp (adk hgl hm (aq hi (aq hi' aQ (by rw[hst2];rfl)) (by rw[hst,hst2])) hst hst2) fun σ H R ⟨ρ,G,s,p⟩=>⟨ρ,G,s,?_⟩
 unfold fL2 at p;cases e1:ak f (ak f' aZ) ρ with
 |ok ds =>
  rw[e1]at p;intro vs H1 G1 e r;have p':Mz X.K W σ G H (asZ ds) R:=p;unfold asZ at p';split at p'
  ·rename_i ds es;by_cases c:ds.length=es.length
   ·rw[if_pos c]at p';obtain⟨v1,vs1,rfl,r1,r2⟩:=aO.mp r;obtain⟨v2,vs2,rfl,r3,r4⟩:=aO.mp r2;cases bf.mp r4;obtain⟨a,xs,rfl,qa,ra⟩:=bR.mp r1;obtain⟨b,ys,rfl,qb,rb⟩:=bR.mp r3;exact⟨a,b,xs,ys,rfl,Same.cV e.gh qa,Same.cV e.gh qb,by rw[<- ra.length,<- rb.length];exact c,p' _ H1 G1 e (adl qa qb ra rb c)⟩
   ·rw[if_neg c]at p';exact p'.elim
  ·exact p'.elim
 |ex c n=>rw[e1]at p;exact p
 |no=>rw[e1]at p;exact p
end
end Vl
namespace Vl
open PySem PySem.Spec PySem.Calls PySem.W L2
section
variable{X:Cx}{K:ai}{B:Bs}{W:Wi}{σ:St}{G H:Hp}{ρ:aH}
end
end Vl
namespace Vl
open PySem PySem.Spec L2
section
variable{X:Cx}{B:Bs}{W:Wi}{K:ai}
end
end Vl
namespace L2
open PySem PySem.Spec PyProof.Rows
section
variable{X:Cx}
end
end L2
namespace Vl
open PySem PySem.Spec L2
section
variable{X:Cx}{B:Bs}{W:Wi}{K:ai}{G:Hp}
end
end Vl
namespace L2
open PySem PySem.Spec PyProof.Rows
section
variable{X:Cx}
end
end L2
namespace Vl
open PySem PySem.Spec L2
section
variable{X:Cx}{B:Bs}{W:Wi}{K:ai}{G:Hp}
end
end Vl
namespace Tb
open PySem PySem.SetTable
noncomputable def Emp(t:eA)(j:Nat):Prop:=¬ahK t j/\has t.dummies j=false
structure aki (t:eA)(L:List qg):Prop where
 pw:∃k,t.mask + 1=2 ^ k
 m7:7<=t.mask
 pl:t.place=(L.map (·.1)).toArray
 so:(L.map (·.1)).Pairwise (· < ·)
 le:∀e∈L,e.1<=t.mask
 dr:ahJ t.dummies
 dj:∀e∈L,has t.dummies e.1=false
 fl:t.fill<=t.mask
 reach:∀e∈L,∃s,pos t e.2.1 s=e.1/\∀s',s' < s->¬Emp t (pos t e.2.1 s')
section
variable{t:eA}{L:List qg}
end
end Tb
namespace Tb
open PySem PySem.Spec PySem.SetTable
section
variable{prog:aE}{w:az}{A:aI}{E:aa->af->Prop}{s:af}
end
section
variable{prog:aE}{w:az}{U:ae->List Int->Prop}{A:aI}{E:aa->af->Prop}{s:af}
end
section
variable{prog:aE}{w:az}{U:ae->List Int->Prop}{A:aI}{E:aa->af->Prop}{s:af}
end
end Tb
namespace So
open PySem PySem.Spec PySem.W PyProof.Rows PySem.Calls PySem.SetTable Tb
section
variable{prog:aE}{w:az}{A:aI}{E:aa->af->Prop}{s:af}{U:ae->List Int->Prop}
end
end So
namespace Vl
open PySem PySem.Spec L2 So Tb
section
variable{X:Cx}{B:Bs}{W:Wi}
end
end Vl
namespace Vl
open PySem PySem.Spec L2 Dk
section
variable{prog:aE}{w:az}{A:aI}{E:aa->af->Prop}{s:af}
end
section
variable{X:Cx}{B:Bs}{W:Wi}
end
end Vl
namespace So
open PySem PySem.Spec PySem.W PyProof.Rows PySem.Calls Tb
section
variable{prog:aE}{w:az}{A:aI}{E:aa->af->Prop}{s:af}
theorem ado{x y:List Int}{a b:ae}{P:pf->af->Prop}(hx:iA (de prog w) s.heap x a)(hy:iA (de prog w) s.heap y b)(h:P (.done (.ret (.bool (jk x y)))) s) :
  ar (ax prog w) A (Builtin.«tuple.__lt__» ⟨[.ref a,.ref b],[]⟩) P E s:=by
 have hTb:=hy.typeIs;obtain⟨oa,xs,na,hoa,_,hda,hia⟩:=hx;obtain⟨ob,ys,nb,hob,_,hdb,hib⟩:=hy;show ar _ _ (isInstance (.ref b) (.type "tuple") >>= _) _ _ s;refine ag (nL hTb isSubtype_tuple_tuple ?_);simp only[gp,cn,if_false];refine ag (wpAny_tupleItemsOf hoa hda (ag (wpAny_tupleItemsOf hob hdb (ag ?_))));refine wpAny_forIn_list _ (fun left r s'=>r.1=none/\s'=s/\∃p q us vs,left=us.zip vs/\ItemsAre (de prog w) p us/\ItemsAre (de prog w) q vs/\jk p q=jk x y/\(us.length < vs.length↔xs.size < ys.size)) _ (fun e left r s' inv=>?_) (fun r s' inv=>?_) _ _ ⟨rfl,rfl,x,y,xs.toList,ys.toList,rfl,hia,hib,rfl,by simp⟩
 ·obtain⟨u,v⟩:=e;obtain⟨hr,rfl,p,q,us,vs,hz,hp,hq,hlt,Qq⟩:=inv;cases hp with
  |nil=>simp at hz
  | @cons k1 u' p' us' h1 hp' =>
   cases hq with
   |nil=>simp at hz
   | @cons k2 v' q' vs' h2 hq' =>
    simp only[wt,List.cons.injEq,vc]at hz;obtain⟨⟨rfl,rfl⟩,rfl⟩:=hz;refine ag ((de prog w).eqBool (a:=k1) (b:=k2) h1 h2 ?_);by_cases hk:k1=k2
    ·rw[decide_eq_true hk];simp only[gp,cn,if_false];refine a_ ⟨rfl,rfl,p',q',us',vs',rfl,hp',hq',?_,by simpa using Qq⟩;rw[<- hlt];simp[jk,hk]
    ·rw[decide_eq_false hk];simp only[o3,if_true];have e1:jk x y=decide (k1 < k2):=by rw[<- hlt];simp[jk,hk]
     rw[e1]at h;obtain⟨t1,rfl⟩:∃t,u=aa.int k1 t:=by
      cases u with
      |int i t=>exact⟨t,by rw[show i=k1 by simpa[de,n_] using h1]⟩
      |_=>simp[de,n_]at h1
     obtain⟨t2,rfl⟩:∃t,v=aa.int k2 t:=by
      cases v with
      |int i t=>exact⟨t,by rw[show i=k2 by simpa[de,n_] using h2]⟩
      |_=>simp[de,n_]at h2
     refine ag (f7 (ag (wpAny_lt_int ?_)));exact ag (a_ (a_ (a_ h)))
 ·obtain⟨r1,r2⟩:=r;obtain⟨hr,rfl,p,q,us,vs,hz,hp,hq,hlt,Qq⟩:=inv;simp only at hr;subst hr;refine a_ ?_;have hfin:decide (xs.size < ys.size)=jk x y:=by
   have e9:decide (xs.size < ys.size)=decide (us.length < vs.length):=decide_eq_decide.mpr Qq.symm;rw[<- hlt,e9];cases hp with
   |nil =>
    cases hq with
    |nil=>simp[jk]
    |cons _ _=>simp[jk]
   |cons _ _ =>
    cases hq with
    |nil=>simp[jk]
    |cons _ _=>simp at hz
  show P (.done (.ret (.bool (decide (xs.size < ys.size))))) s';rw[hfin];exact h
theorem afI{x y:List Int}{a b:ae}{Q:aa->af->Prop}(hu:A.units < bX)(hx:iA (de prog w) s.heap x a)(hy:iA (de prog w) s.heap y b)(h:Q (.bool (jk x y)) s) :
  ar (ax prog w) A (pM .Lt (.ref a) (.ref b)) Q E s :=
 wpAny_richCompare_same_room (op:=.Lt) hx.typeIs hy.typeIs F.slot_tuple_lt (ic F.slot_tuple_lt hx.typeIs F.entry_tuple_lt (ado hx hy ⟨_,rfl,(fun e=>nomatch e),h⟩) (F.args_tuple_lt_2 _ _)) hu
section
variable{I S:ae}{fp wr:List ae}{G:Array kP->Array kP->Prop}{n:Nat}{P:Nat->aa->Prop}{St:Nat->af->Prop}{R:Result->af->Prop}{Kp:Heap->Prop}{bt:Nat->Nat->Bool}
noncomputable def two(v:aa)(c:Nat):Obj:={ cls:=.type "list",dict:=none,data:=.seq #[v,v] c,slots:=#[] }
theorem ZJ(W:WalksS prog w A.in1 I fp wr G n P St)(hcmp:∀i j vi vj (s:af) (Q:aa->af->Prop) (E:aa->af->Prop),Kp s.heap->P i vi->P j vj->Q (.bool (bt i j)) s->ar (ax prog w) A.in1 (pM .Lt vi vj) Q E s)
  (hK:∀h h':Heap,Kp h->(∀b o,b∉S::wr->h.get? b=some o->h'.get? b=some o)->Kp h') (hSf:S∉fp) :
  ∀(k j:Nat) (s:af) (vb:aa) (c:Nat),n - (j + 1)=k->j + 1<=n->St (j + 1) s->Kp s.heap->P (c_ bt j) vb->s.heap.get? S=some (two vb c) ->
  (∀v s',P (c_ bt (n - 1)) v->Moved (S::wr) G s s'->R (.ok (.ret v)) s')->fq (ax prog w) A (.builtin "min.loop" ⟨[.ref I,.none,.ref S],[]⟩) R s:=by
 have ZK:S∉wr:=fun z=>hSf (W.sub _ z);have more:∀b∈wr,b∈S::wr:=fun b=>dP _;have nm:(toString "min"++toString ".loop":String)="min.loop":=by decide
 have ne:∀{b:ae},b∉S::wr->S≠b:=fun hb z=>hb (z▸dC);have nw:∀{b:ae},b∉S::wr->b∉wr:=fun hb z=>hb (more _ z);intro k
 induction k with
 |zero =>
  intro j s vb c hk hj st kp pb hS hR;have hn:j + 1=n:=by lia
  refine j_ w6 ?_;rw[kH lT _];show ar _ A.in1 (kL (.ref S) >>= _) _ _ s;refine ag (gu hS rfl ?_);show ar _ A.in1 (tryCatch (eD (.ref I)) _ >>= _) _ _ s;refine ag (iO (W.done s _ _ (hn▸st) fun s1 m1=>?_));show ar _ A.in1 (kK S (fun _=>#[]) >>= _) _ _ _;refine ag (iL (m1.heap S _ ZK hS) rfl (ag (iN (a_ (hR vb _ (hn▸pb) ?_)))));exact(m1.mono more).then_heap (tk:=s1.toks) (bz _) fun b o hb e=>(eC _ _ (ne hb)).trans e
 |succ k ih =>
  intro j s vb c hk hj st kp pb hS hR;refine j_ w6 ?_;rw[kH lT _];show ar _ A.in1 (kL (.ref S) >>= _) _ _ s;refine ag (gu hS rfl ?_);show ar _ A.in1 (tryCatch (eD (.ref I)) _ >>= _) _ _ s;refine ag (iO (W.item (j + 1) s _ _ (by lia) st fun v s1 pv st1 m1=>?_));have hS1:=m1.heap S _ ZK hS;have kp1:Kp s1.heap:=hK _ _ kp fun b o hb e=>m1.heap b o (nw hb) e;show ar _ A.in1 (tryCatch (eL [v,v] (pM .Lt v vb >>= _)) _ >>= _) _ _ _;refine ag (iO (e_ (ag (hcmp (j + 1) (c_ bt j) v vb _ _ _ kp1 pv pb (ag (e_ (kR (ag (iN (a_ ?_))))))))));cases hb:bt (j + 1) (c_ bt j) with
  |false =>
   simp only[cn,if_false];refine ag (iN ?_);rw[nm];refine a_ ⟨ie lT _,ih (j + 1) _ vb c (by lia) (by lia) st1 kp1 (by simp only[c_,hb,cn,if_false];exact pb) hS1 fun u s2 pu m2=>?_⟩;exact hR u s2 pu (w8 W.gtrans (m1.mono more) m2)
  |true =>
   simp only[if_true];refine ag (iL hS1 rfl (ag (iN ?_)));rw[nm];have keep:∀b o,b∉S::wr->s1.heap.get? b=some o->(s1.heap.update S (dA fun _=>#[v,v])).get? b=some o:=fun b o hb e=>(eC _ _ (ne hb)).trans e;refine a_ ⟨ie lT _,ih (j + 1) _ v _ (by lia) (by lia) (W.frame _ s1 _ s1.toks st1 (bz _) fun b hbf o e=>?_) (hK _ _ kp1 keep) (by simp only[c_,hb,if_true];exact pv) (gE _ hS1 rfl) fun u s2 pu m2=>?_⟩
   ·exact(eC _ _ (fun z:S=b=>hSf (z▸hbf))).trans e
   ·exact hR u s2 pu (w8 W.gtrans ((m1.mono more).then_heap (tk:=s1.toks) (bz _) keep) m2)
theorem Kh(W:WalksS prog w A.in1 I fp wr G n P St)(hcmp:∀i j vi vj (s:af) (Q:aa->af->Prop) (E:aa->af->Prop),Kp s.heap->P i vi->P j vj->Q (.bool (bt i j)) s->ar (ax prog w) A.in1 (pM .Lt vi vj) Q E s)
  (hK:∀h h':Heap,Kp h->(∀b o,b∉S::wr->h.get? b=some o->h'.get? b=some o)->Kp h') (hSf:S∉fp) (hn:0 < n) {s:af}{c:Nat}(st:St 0 s) (kp:Kp s.heap) (hS:s.heap.get? S=some { cls:=.type "list",dict:=none,data:=.seq #[] c,slots:=#[] })
  (hR:∀v s',P (c_ bt (n - 1)) v->Moved (S::wr) G s s'->R (.ok (.ret v)) s'):fq (ax prog w) A (.builtin "min.loop" ⟨[.ref I,.none,.ref S],[]⟩) R s:=by
 have ZK:S∉wr:=fun z=>hSf (W.sub _ z);have more:∀b∈wr,b∈S::wr:=fun b=>dP _;have nm:(toString "min"++toString ".loop":String)="min.loop":=by decide
 have ne:∀{b:ae},b∉S::wr->S≠b:=fun hb z=>hb (z▸dC);have nw:∀{b:ae},b∉S::wr->b∉wr:=fun hb z=>hb (more _ z);refine j_ w6 ?_;rw[kH lT _];show ar _ A.in1 (kL (.ref S) >>= _) _ _ s;refine ag (gu hS rfl ?_);show ar _ A.in1 (tryCatch (eD (.ref I)) _ >>= _) _ _ s;refine ag (iO (W.item 0 s _ _ hn st fun v s1 pv st1 m1=>?_));have hS1:=m1.heap S _ ZK hS;have kp1:Kp s1.heap:=hK _ _ kp fun b o hb e=>m1.heap b o (nw hb) e;show ar _ A.in1 (kK S (fun _=>#[v,v]) >>= _) _ _ _;refine ag (iL hS1 rfl ?_);rw[nm];have keep:∀b o,b∉S::wr->s1.heap.get? b=some o->(s1.heap.update S (dA fun _=>#[v,v])).get? b=some o:=fun b o hb e=>(eC _ _ (ne hb)).trans e;refine a_ ⟨ie lT _,ZJ W hcmp hK hSf _ 0 _ v _ rfl hn (W.frame _ s1 _ s1.toks st1 (bz _) fun b hbf o e=>?_) (hK _ _ kp1 keep) pv (gE _ hS1 rfl) fun u s2 pu m2=>?_⟩
 ·exact(eC _ _ (fun z:S=b=>hSf (z▸hbf))).trans e
 ·exact hR u s2 pu (w8 W.gtrans ((m1.mono more).then_heap (tk:=s1.toks) (bz _) keep) m2)
end
theorem Vz{l:ae}{vs:List aa}{bI:LL}{Q:aa->af->Prop}(hh:A.handled=none)(hl:s.heap.IsList l vs.toArray)(hk:KeysAre prog w s.heap vs bI)(hne:0 < vs.length)(hu:A.units + 1 < bX)
  (h:∀v h' tk,vs[c_ (fun i j=>jk (bI.getD i []) (bI.getD j [])) (vs.length - 1)]?=some v->(∀b o,s.heap.get? b=some o->h'.get? b=some o)->Q v { s with heap:=h',toks:=tk }) :
  ar (ax prog w) A (call (.builtin "min") [.ref l]) Q E s:=by
 have nm:(toString "min"++toString ".loop":String)="min.loop":=by decide
 have hlt:l < s.heap.objs.size:=by obtain⟨_,e,_⟩:=hl;exact bE e
 refine call_function_tree F.kind_min F.plain_min F.entry_min (F.args_min1 _) ?_;show ar _ A.in1 (sN "min" ["key","default"] 0 ⟨[],[]⟩ >>= _) _ _ s;refine ag (jI (show sN "min" ["key","default"] 0 ⟨[],[]⟩=pure [none,none] from rfl) ?_);refine ag (a_ (ag (p_ hl ?_)));refine ag (gz ?_);rw[nm];have sz:∀o,(s.heap.push o).objs.size=s.heap.objs.size + 1:=fun o=>i_ ..;have W:=(oD (prog:=prog) (w:=w) (A:=A.in1) hh s.heap.objs.size l (ck hlt) vs.toArray).toS;have each:∀(i:Nat) v,vs[i]?=some v->∃b,v=.ref b/\b < s.heap.objs.size:=fun i v hv=>by obtain⟨b,e,q⟩:=hk.2 i v hv;obtain⟨o,_,_,ho,_⟩:=q;exact⟨b,e,bE ho⟩
 generalize hO:({ cls:=.type "list_iterator",data:=.fields #[.ref l,.int 0 0] }:Obj)=O at *;have hK:∀h1 h2:Heap,KeysAre prog w h1 vs bI->(∀b o,b∉[(s.heap.push O).objs.size,s.heap.objs.size]->h1.get? b=some o->h2.get? b=some o)->KeysAre prog w h2 vs bI:=fun h1 h2 k hm=>⟨k.1,fun i v hv=>by
  obtain⟨b,e,q⟩:=k.2 i v hv;obtain⟨b',e',lt⟩:=each i v hv;rw[e]at e';cases e';obtain⟨o,its,m,q1,q2,q3,q4⟩:=q;refine⟨b,e,o,its,m,hm b o ?_ q1,q2,q3,q4⟩;simp only[sz,bP,eT,or_false,not_or];exact⟨ck (j8 lt),ck lt⟩⟩
 have kp:KeysAre prog w ((s.heap.push O).push { cls:=.type "list",dict:=none,data:=.seq #[] 0,slots:=#[] }) vs bI:=hk.moved fun b o e _=>bS _ (bS _ e);refine a_ ⟨ie lT _,Kh (S:=(s.heap.push O).objs.size) (Kp:=fun h=>KeysAre prog w h vs bI) (bt:=fun i j=>jk (bI.getD i []) (bI.getD j [])) W (fun i j vi vj s' Q' E' k pi pj q=>?_) hK ?_ (by simpa using hne) ?_ kp (cy _ rfl) fun v s' pv m=>?_⟩
 ·have pi':vs[i]?=some vi:=by simpa using pi
  have pj':vs[j]?=some vj:=by simpa using pj
  obtain⟨b1,rfl,k1⟩:=k.2 i vi pi';obtain⟨b2,rfl,k2⟩:=k.2 j vj pj';exact afI (by show A.units + 1 < bX;exact hu) k1 k2 q
 ·rw[sz];simp only[bP,eT,or_false,not_or];exact⟨Nat.succ_ne_self _,jS (j8 hlt)⟩
 ·subst hO;exact⟨⟨_,bS _ (cy _ rfl),rfl,rfl⟩,(hl.push _).push _⟩
 ·obtain⟨h',g',d',tk',os'⟩:=s';have eg:g'=s.gens:=m.gens;have ed:d'=s.drawn:=m.drawn;have eo:os'=s.os:=m.os;subst eg ed eo;refine h v h' tk' (by simpa using pv) fun b o e=>m.heap b o ?_ (bS _ (bS _ e));have:=bE e;rw[sz];simp only[bP,eT,or_false,not_or];exact⟨ck (j8 this),ck this⟩
end
end So
namespace Vl
open PySem PySem.Spec L2 So
theorem Oe(k:List Int):jk k k=false:=by
 cases z:jk k k with
 |false=>rfl
 |true=>have:=qC _ _ z;rw[z]at this;cases this
noncomputable def rY:LL->List Int
 | []=>[]
 | [k]=>k
 |k::ks=>if jk k (rY ks) then k else rY ks
theorem Ei:∀{ks:LL},0 < ks.length->rY ks∈ks/\∀a∈ks,jk a (rY ks)=false
 | [k],_=>⟨by simp[rY],fun a h=>by
   simp at h;rw[h];exact Oe k⟩
 |k::m::ks,_=>by
  obtain⟨h1,h2⟩:=Ei (ks:=m::ks) (by simp);show(if jk k (rY (m::ks)) then k else rY (m::ks))∈k::m::ks/\∀a∈k::m::ks,jk a (if jk k (rY (m::ks)) then k else rY (m::ks))=false;cases e:jk k (rY (m::ks)) with
  |true =>
   simp only[if_true];refine⟨dC,fun a ha=>?_⟩;have e':=qC _ _ e;rcases bP.mp ha with rfl|ha
   ·cases z:jk a a with
    |false=>rfl
    |true=>have:=qC _ _ z;rw[z]at this;cases this
   ·exact za _ _ _ e' (h2 a ha)
  |false =>
   simp only[cn,if_false];refine⟨dP _ h1,fun a ha=>?_⟩;rcases bP.mp ha with rfl|ha
   ·exact e
   ·exact h2 a ha
theorem Og(bI:LL):∀m,c_ (fun i j=>jk (bI.getD i []) (bI.getD j [])) m<=m/\∀j,j<=m->jk (bI.getD j []) (bI.getD (c_ (fun i j=>jk (bI.getD i []) (bI.getD j [])) m) [])=false
 | 0=>⟨bz _,fun j hj=>by
   obtain rfl:j=0:=by lia
   show jk (bI.getD 0 []) (bI.getD 0 [])=false;cases z:jk (bI.getD 0 []) (bI.getD 0 []) with
   |false=>rfl
   |true=>have:=qC _ _ z;rw[z]at this;cases this⟩
 |m + 1=>by
  obtain⟨h1,h2⟩:=Og bI m;simp only[c_];by_cases e:jk (bI.getD (m + 1) []) (bI.getD (c_ (fun i j=>jk (bI.getD i []) (bI.getD j [])) m) [])=true
  ·rw[if_pos e];refine⟨bz _,fun j hj=>?_⟩;by_cases c:j=m + 1
   ·subst c;exact Oe _
   ·exact za _ _ _ (qC _ _ e) (h2 j (by lia))
  ·rw[if_neg e];refine⟨by lia,fun j hj=>?_⟩;by_cases c:j=m + 1
   ·subst c;simpa using e
   ·exact h2 j (by lia)
theorem VB{bI:LL}(h:0 < bI.length):bI.getD (c_ (fun i j=>jk (bI.getD i []) (bI.getD j [])) (bI.length - 1)) []=rY bI:=by
 obtain⟨b1,b2⟩:=Og bI (bI.length - 1);obtain⟨k1,k2⟩:=Ei h;have hlt:c_ (fun i j=>jk (bI.getD i []) (bI.getD j [])) (bI.length - 1) < bI.length:=by lia
 have m1:bI.getD (c_ (fun i j=>jk (bI.getD i []) (bI.getD j [])) (bI.length - 1)) []∈bI:=by rw[f6,du hlt];exact j7 hlt
 refine JK _ _ (k2 _ m1) ?_;obtain⟨j,hj,e⟩:=List.mem_iff_getElem.mp k1;have:=b2 j (by lia);have ej:bI.getD j []=rY bI:=by rw[f6,du hj];exact e
 rw[ej]at this;exact this
section
variable{X:Cx}{B:Bs}{W:Wi}{K:ai}
noncomputable def abg(K:ai):List V->Hp->VK->Prop:=fun xs H Q=>∃(p:ae) (ys:List V) (bI:LL),xs=[.ref p]/\pU K H p ys/\bI.length=ys.length/\0 < bI.length/\(∀(i:Nat) v,ys[i]?=some v->∃b,v=.ref b/\jT K H b ((bI.getD i []).map V.int)) /\
 ∀(i:Nat) v,ys[i]?=some v->bI.getD i []=rY bI->Q v H
theorem Qz(hc:X.calm=true)(hu:X.A.units + 1 < bX):gj X (.builtin "min") (abg X.K):=by
 intro pins s σ H xs us Q I r h;obtain⟨p,ys,bI,rfl,hs,hlen,hne,hk,q⟩:=h;obtain⟨u,rfl,rx⟩:=r.one;cases rx;obtain⟨its,rv,pl,_⟩:=I.list hs;have hl:=rv.length;refine Vz (bI:=bI) (I.ok.hd hc) pl.isList ⟨by lia,fun i v hv=>?_⟩ (by lia) hu fun v h' tk hv hk'=>?_
 ·obtain⟨x,h1,h2⟩:=Vals.get' rv hv;obtain⟨b,rfl,h3⟩:=hk i x h1;exact⟨b,h2,JT I h3⟩
 ·obtain⟨x,h1,h2⟩:=Vals.get' rv hv;have hz:its.length=bI.length:=by lia
  rw[hz]at h1;exact⟨x,H,I.kept (t':=tk) hk',h2,q _ x h1 (VB hne)⟩
noncomputable def Ca:List D->Rs D
 | [.lst ds]=>(match jH ds with|some bI=>if 0 < bI.length then .ok (aj (rY bI)) else .no|none=>.no)
 |_=>.no
theorem ZL:qm K (abg K) Ca:=by
 intro B W σ ρ G H ds vs Q s r p;unfold Ca at p;split at p
 ·rename_i ds;obtain⟨v,vs',rfl,r1,r2⟩:=aO.mp r;obtain⟨a,us,rfl,q,rr⟩:=bJ.mp r1;rw[bf.mp r2];split at p
  ·rename_i bI ei;split at p
   ·rename_i hc;rw[zH ei]at rr;obtain⟨h1,h2⟩:=BX rr;refine⟨a,us,bI,rfl,s.en.gh.seq q,h1,hc,fun i v hv=>?_,fun i v hv e=>?_⟩
    ·obtain⟨b,e,z⟩:=h2 i v hv;exact⟨b,e,Same.cV s.en.gh z⟩
    ·refine p _ H G s.uW (zJ.mpr ?_);obtain⟨b,e',z⟩:=h2 i v hv;rw[e]at z;exact⟨b,e',z⟩
   ·exact p.elim
  ·exact p.elim
 ·exact p.elim
theorem ZM{e:ah}{p pos:Pos}{fa:aH->Rs D}(hc:X.calm=true) (hu:X.A.units + 8 < bX) (hm:X.mg "min"=none) (ha:SE X B W e fa) (hg:Gl X "min":=by rfl) (he:bg [e] X.env=[(false,aS e X.env)]:=by rfl):SE X B W (.Call (.Name "min" p) [e] [] pos) (fA (ak fa aZ) Ca) :=
 mz (Qz hc (zO hu)) ZL hg hm rfl (aq ha aQ he) (by decide) (by decide) he rfl
end
end Vl
namespace Vl
open PySem PySem.Spec L2
section
variable{prog:aE}{w:az}{K:Type}[DecidableEq K]{knd:HeapKind prog w K}{A:aI}{E:aa->af->Prop}{s:af}
end
section
variable{X:Cx}{B:Bs}{W:Wi}{K:ai}
end
end Vl
namespace Zp
open PySem PySem.Spec
section
variable{prog:aE}{w:az}{A:aI}{E:aa->af->Prop}{s:af}
end
end Zp
namespace L2
open PySem PySem.Spec PyProof.Rows
section
variable{X:Cx}
end
end L2
namespace Vl
open PySem PySem.Spec L2
section
variable{X:Cx}{B:Bs}{W:Wi}{K:ai}{G:Hp}
noncomputable def Oh(h:Tg)(gb:aH->Ou)(f:aH->Rs (List D)):aH->Ou:=fun ρ=>match f ρ with
 | .ok ds=>fU h gb ds ρ
 | .ex c n=>.ex c n ρ
 | .no=>.no
theorem ZP{tg iter:ah}{body:List bj}{pos:Pos}{f:aH->Rs (List D)}{h:Tg}{gb:aH->Ou}(hp:kT (ax X.prog X.w) X.A X.env X.xe)(hc:X.calm=true)(hi:SI X B W tg iter f)(hg:SG X B tg h)(hb:rA X B W body gb)
  (hs:∀x,gc iter X.env x=pure x:=by intro _;rfl):SS X B W (.For tg iter body [] pos) (Oh h gb f):=by
 refine PS.imp (uR hp hc hi hg hb hs) fun De σ H ⟨ρ,G,s,p⟩=>⟨ρ,G,s,?_⟩
 unfold Oh at p;cases e:f ρ with
 |no=>rw[e]at p;exact p.elim
 |ex c n=>rw[e]at p;exact fun H' G' x=>p σ H' G' (s.ext x) x.gg
 |ok ds =>
  rw[e]at p;intro J H' G' x yl;refine⟨fun i m σ H=>m=ds.length - i/\i<=ds.length/\∃ρ G,SR X.K B σ H ρ G/\Same G' G/\cP X.K B W G (fU h gb (ds.drop i) ρ) De,⟨ds.length,by simp,fR _,ρ,G',s.ext x,.refl _,by simpa using cP.same p x.gg⟩,?_⟩;rintro i m σ2 H2 ⟨rfl,hi',ρ2,G2,s2,gg,p2⟩;obtain⟨y1,y2⟩:=yl i G2 H2 gg s2.uW;by_cases hlt:i < ds.length
  ·obtain⟨go,y3⟩:=y1 ds[i] (du hlt);refine .inr ⟨go,fun σ' H'=>∃ρ' G3,SR X.K B σ' H' ρ' G3/\Same G' G3/\cP X.K B W G3 (fU h gb (ds.drop (i + 1)) ρ') De,fun σ' H3 p'=>⟨ds.length - (i + 1),by lia,rfl,hlt,p'⟩,fun v H3 yd=>?_⟩;obtain⟨G3,x3,r3⟩:=y3 v H3 yd;rw[iq hlt]at p2;exact uc (s2.ext x3) r3 (cP.same p2 x3.gg) fun σ' H4 ρ' G4 s' q' p'=>⟨ρ',G4,s',gg.trans (x3.gg.trans q'),p'⟩
  ·have ei:i=ds.length:=by lia
   subst ei;rw[oB]at p2;exact .inl ⟨y2 (bz _),p2 σ2 H2 G2 s2 (.refl _)⟩
end
end Vl
namespace Vl
open PySem PySem.Spec PySem.Calls PySem.W L2
end Vl
namespace HT2
open PySem PySem.Spec PyProof.Rows HT
variable{prog:aE}{w:az}{A:aI}{E:aa->af->Prop}{s:af}
end HT2
namespace Vl
open PySem PySem.Spec PySem.Calls PySem.W L2
section
variable{X:Cx}{B:Bs}{W:Wi}
section
variable{K:ai}{σ:St}{G H:Hp}{ρ:aH}
end
end
end Vl
namespace Vl
open PySem PySem.Spec PySem.Calls PySem.W L2 PyProof.Rows
section
variable{X:Cx}{B:Bs}{W:Wi}
section
variable{K:ai}
end
section
variable{K:ai}
end
variable{a b:ah}{pos:Pos}{fa fb:aH->Rs D}
end
end Vl
namespace Vl
open PySem PySem.Spec L2 AutoSeq1
section
variable{X:Cx}{B:Bs}{W:Wi}{K:ai}
end
end Vl
namespace Vl
open PySem PySem.Spec L2
section
variable{X:Cx}{B:Bs}{W:Wi}{K:ai}
variable{o e:ah}{apos cpos:Pos}{fo fe:aH->Rs D}
end
end Vl
namespace Vl
open PySem PySem.Spec PySem.Calls PySem.W L2
noncomputable def akl:Sl->Option (List D)
 | .ow ds=>some ds
 | .op ds=>some ds
 |_=>none
section
variable{X:Cx}{K:ai}{B:Bs}{W:Wi}{σ:St}{G H G' H':Hp}{ρ:aH}
end
section
variable{X:Cx}{K:ai}{B:Bs}{W:Wi}{σ:St}{G H G' H':Hp}{ρ:aH}
end
noncomputable def lf{α:Type}(r:Rs α)(ρ:aH):Rs (α×aH):=match r with
 | .ok a=>.ok (a,ρ)
 |_=>.no
noncomputable def bx{α β:Type}(r:Rs (α×aH))(k:α->aH->Rs (β×aH)):Rs (β×aH):=match r with
 | .ok (a,ρ)=>k a ρ
 |_=>.no
section
variable{X:Cx}{K:ai}{B:Bs}{W:Wi}{σ:St}{G H G' H':Hp}{ρ:aH}
section
variable{x:Str}{p pos:Pos}{e:ah}{es:List ah}{id T:String}{r:List V->Hp->VK->Prop}{g:List D->Rs D}{fs:aH->Rs (List D×aH)}
end
variable{a b:ah}{pos:Pos}{fa fb:aH->Rs (D×aH)}
end
end Vl
namespace Vl
open PySem PySem.Spec PySem.Calls PySem.W L2 So
section
variable{X:Cx}{K:ai}{B:Bs}{W:Wi}{σ:St}{G H G' H':Hp}{ρ:aH}{De:Ends}
end
section
variable{X:Cx}{K:ai}{B:Bs}{W:Wi}{σ:St}{G H G' H':Hp}{ρ:aH}{a b:ah}{pos:Pos}{fa fb:aH->Rs (D×aH)}
section
variable{x:Str}{p1:Pos}{fb:aH->Rs D}(j:Nat)(hu:X.A.units + 8 < bX)(hb:SE X B W b fb)(hN:X.N[j]?=some x)(hv:Ri X.env.scope x)(hd:uN x)(hcd:Rq x)
end
end
end Vl
namespace Vl
open PySem PySem.Spec L2 AutoSeq1
section
variable{X:Cx}{B:Bs}{W:Wi}{K:ai}
end
end Vl
namespace Vl
open PySem PySem.Spec L2
mutual
noncomputable def noL:D->Bool
 | .non=>true
 | .bl _=>true
 | .int _=>true
 | .str _=>true
 | .tup ds=>ZQ ds
 |_=>false
noncomputable def ZQ:List D->Bool
 | []=>true
 |d::ds=>noL d && ZQ ds
end
noncomputable def drp(G:Hp)(a:ae):Hp:=fun b=>if b=a then none else G b
theorem VD{G:Hp}{a b:ae}(h:b≠a):drp G a b=G b:=if_neg h
section
variable{X:Cx}{B:Bs}{W:Wi}{K:ai}{G H:Hp}{σ:L2.St}{ρ:aH}{a:ae}{vs:List V}
theorem adp{b:ae}{xs:List V}(h:G a=some (.lst vs))(r:jT K G b xs):jT K (drp G a) b xs:=by
 rcases r with (r|⟨o,r⟩)|r
 ·have:b≠a:=fun z=>by rw[z,h]at r;cases r
  exact .inl (.inl (by rw[VD this];exact r))
 ·have:b≠a:=fun z=>by rw[z,h]at r;cases r
  exact .inl (.inr ⟨o,by rw[VD this];exact r⟩)
 ·exact .inr r
mutual
theorem ZR(h:G a=some (.lst vs)):∀{d:D}{v:V},noL d=true->Rep K G d v->Rep K (drp G a) d v
 | .non,v,_,r=>lJ.mpr (lJ.mp r)
 | .bl b,v,_,r=>cJ.mpr (cJ.mp r)
 | .int i,v,_,r=>bA.mpr (bA.mp r)
 | .str i,v,_,r=>pB.mpr (pB.mp r)
 | .tup ds,v,n,r=>by obtain⟨b,us,e,q,rr⟩:=bR.mp r;exact bR.mpr ⟨b,us,e,adp h q,HF h (by unfold noL at n;exact n) rr⟩
 | .lst _,v,n,r=>by unfold noL at n;cases n
 | .su _ _,v,n,r=>by unfold noL at n;cases n
 | .sy _ _,v,n,r=>by unfold noL at n;cases n
 | .fn _,v,n,r=>by unfold noL at n;cases n
 | .obj _ _ _,v,n,r=>by unfold noL at n;cases n
theorem HF(h:G a=some (.lst vs)):∀{ds:List D}{us:List V},ZQ ds=true->bF K G ds us->bF K (drp G a) ds us
 | [],us,_,r=>bf.mpr (bf.mp r)
 |d::ds,us,n,r=>by obtain⟨v,ws,e,r1,r2⟩:=aO.mp r;unfold ZQ at n;have n:=ir _ _▸n;exact aO.mpr ⟨v,ws,e,ZR h n.1 r1,HF h n.2 r2⟩
end
end
end Vl
namespace Vl
open PySem PySem.Spec PySem.Calls PySem.W L2
section
variable{X:Cx}{B:Bs}{a b:ah}{pos:Pos}{fa fb:aH->Rs (D×aH)}
end
section
variable{ρ ρ1:aH}{d x y z:D}{f fa fb:aH->Rs D}{g k a b:aH->Ou}{r:Ou}{ds:List D}{fs:aH->Rs (List D)}{c c1 c2:aH->Rs Bool}{t u:Bool}{i j:Nat}{α β:Type}{e:Str}{n:Int}
theorem VF:SJ (.nx ρ) k=k ρ:=rfl
theorem VG:SJ (.rt d) k=.rt d:=rfl
theorem VH:SJ (.ex e n ρ) k=.ex e n ρ:=rfl
theorem adq{a:α}{k:α->Ou}:oR (.ok a) ρ k=k a:=rfl
theorem adt{k:α->Ou}:oR (.ex e n) ρ k=.ex e n ρ:=rfl
theorem Cd{a:α}{k:α->Rs β}:Rs.bind (.ok a) k=k a:=rfl
theorem VJ{k:α->Rs β}:Rs.bind (.ex e n) k=.ex e n:=rfl
theorem adu:oO (some ρ)=.nx ρ:=rfl
theorem VL:dY (.nx ρ)=.ok .non:=rfl
theorem VN:dY (.rt d)=.ok d:=rfl
theorem VP:dY (.ex e n ρ)=.ex e n:=rfl
theorem VR:Tc (.nx ρ)=.nx ρ:=rfl
theorem Wa:Tc (.rt d)=.rt d:=rfl
theorem Kl{n:Nat}{v:List D->Rs D}:bD n v ds=if ds.length=n then v ds else .no:=rfl
theorem Ko{a:α}:kh (.ok a)=.ok a:=rfl
theorem mJ{m n:Int}(h:-(2 ^ 64) < n/\n < 2 ^ 64):fZ (.int m) (.int n)=.ok (.int (m * n)):=afr (.inr h)
theorem HJ{m:Int}:gU (.tup ds) (.int m)=match xR ds m with|some d=>.ok d|none=>.no:=rfl
theorem Wb{m:Int}:gU (.lst ds) (.int m)=match xR ds m with|some d=>.ok d|none=>.no:=rfl
theorem zQ:vd [.lst ds]=.ok (.int ds.length):=rfl
theorem vq:vd [.tup ds]=.ok (.int ds.length):=rfl
theorem Ej:mC [.lst ds]=.ok (.tup ds):=rfl
theorem Kq:mC [.tup ds]=.ok (.tup ds):=rfl
theorem Kr:Vc [.lst ds]=.ok (.lst ds):=rfl
theorem Ks:Vc [.tup ds]=.ok (.lst ds):=rfl
theorem Ku:afC [.int n]=.ok (.int n):=rfl
theorem Kv:afC [.bl t]=.ok (.int (if t then 1 else 0)):=rfl
theorem Wc:JW x .non=.ok (.bl (sJ x)):=rfl
theorem Kw:afD x .non=.ok (.bl (!sJ x)):=rfl
theorem adw:sJ .non=true:=rfl
theorem adx:sJ (.bl t)=false:=rfl
theorem ady:sJ (.int n)=false:=rfl
theorem adz:sJ (.tup ds)=false:=rfl
theorem adA:sJ (.lst ds)=false:=rfl
theorem Wd:YB (.int n)=.ok (.int (-n)):=rfl
theorem zR{d:D}:xR (d::ds) 0=some d:=by
 unfold xR;have:Pz (d::ds).length 0=some 0:=by unfold Pz;simp
 rw[this];rfl
theorem HN{d d':D}:xR (d::d'::ds) 1=some d':=by
 unfold xR;have:Pz (d::d'::ds).length 1=some 1:=by unfold Pz;simp;lia
 rw[this];rfl
end
section
open So Tb
theorem vA{α:Type}{h:Tg}{fe:aH->Rs D}(P:aH->Prop)(xW:α->D)(F:α->D):∀{xs:List α}{ρ:aH},P ρ->(∀x∈xs,∀ρ,P ρ->∃ρ1,h (xW x) ρ=some ρ1/\fe ρ1=.ok (F x)/\P ρ1)->dX h (fun _=>.ok true) fe (xs.map xW) ρ=.ok (xs.map F)
 | [],ρ,p,_=>rfl
 |x::xs,ρ,p,st=>by obtain⟨ρ1,e1,e2,p2⟩:=st x (by simp) ρ p;have e:=vA (xs:=xs) P xW F p2 fun d' hd=>st d' (by simp[hd]);simp only[cb,dX,e1,Rs.bind,e2,e,if_true]
theorem rF{l:LL}{x:List Int}:x∈cR l↔x∈l:=(gq l).mem_iff
theorem rG(l:LL):(cR l).length=l.length:=(gq l).length_eq
noncomputable def Pair(ks:List Int):Prop:=∃a b,ks=[a,b]
theorem Pair.ne{ks:List Int}(h:Pair ks):ks≠[]:=by obtain⟨a,b,rfl⟩:=h;simp
theorem Wf(ks:List Int):jl (aj ks)<=2:=by
 unfold aj;have:jm (ks.map D.int)<=1:=by
  induction ks with
  |nil=>simp[jm]
  |cons k ks ih=>simp only[cb,jm,jl];exact Nat.max_le.mpr ⟨by lia,ih⟩
 simp only[jl];lia
theorem Ce(bI:LL):jm (bI.map aj)<=2:=by
 induction bI with
 |nil=>simp[jm]
 |cons k bI ih=>simp only[cb,jm];exact Nat.max_le.mpr ⟨Wf k,ih⟩
theorem Ky{α:Type}(xs:List α):Du [.lst (xs.map fun _=>.bl true)]=.ok (.bl true):=by
 have h:∀xs:List α,ug (xs.map fun _=>D.bl true)=some (xs.map fun _=>true):=fun xs=>by
  induction xs with
  |nil=>rfl
  |cons x xs ih=>simp only[cb,ug,ih];rfl
 simp only[Du,h];have:(xs.map fun _=>true).all id=true:=by simp
 rw[this]
end
end Vl
namespace Vl
open PySem PySem.Spec PySem.Calls PySem.W L2 So
section
variable{ρ ρ1 ρ2:aH}{d x y z:D}{f fa fb:aH->Rs D}{xa xb:aH->Rs (D×aH)}{g k a b:aH->Ou}{r:Ou}{ds:List D}{fs:aH->Rs (List D)}{xs:aH->Rs (List D×aH)}{c c1 c2:aH->Rs (Bool×aH)}{t u:Bool}{i j:Nat}
end
end Vl
namespace Vl
open PySem PySem.Spec PySem.Calls PySem.W L2
noncomputable abbrev KL:=LL
theorem t2(a b:D):gP [a,b]=.ok (.tup [a,b]):=aaX (by simp)
theorem iU(ks:List Int):lO (aj ks)=some ks:=by
 show tD (ks.map D.int)=some ks
 induction ks with
 |nil=>rfl
 |cons k ks ih=>rw[cb];show(tD (ks.map D.int)).map _=_;rw[ih];rfl
theorem mK(kvs:List (List Int×D))(x:List Int):(bT kvs x).isSome=decide (x∈kvs.map (·.1)):=by
 induction kvs with
 |nil=>rfl
 |cons p kvs ih =>
  unfold bT at ih ⊢;rw[f9,cb];by_cases h:p.1=x
  ·simp[h]
  ·have h':¬x=p.1:=fun z=>h z.symm;simp only[h,decide_false];rw[ih];simp[h']
theorem uD(kvs:List (List Int×D))(ks x:List Int)(d:D):x∈(ju kvs ks d).map (·.1)↔x=ks∨x∈kvs.map (·.1):=by
 unfold ju;split
 ·rename_i c;rw[mK]at c;have hk:=of_decide_eq_true c;have e:(kvs.map fun p=>if p.1=ks then (p.1,d) else p).map (·.1)=kvs.map (·.1):=by rw[iF];refine nI fun p _=>?_;show(if p.1=ks then (p.1,d) else p).1=p.1;split <;> rfl
  rw[e];exact⟨.inr,fun h=>h.elim (fun z=>z▸hk) id⟩
 ·rw[nV,dQ];simp[or_comm]
theorem rH(kvs:List (List Int×D))(ks:List Int)(d:D):(ju kvs ks d).length<=kvs.length + 1:=by
 unfold ju;split
 ·rw[cx];lia
 ·simp
theorem uE{ρ:aH}{j:Nat}{kvs:List (List Int×D)}{ks:List Int}{v:D}{fe fk:aH->Rs D}(he:fe ρ=.ok v)(hj:ρ[j]?=some (.od kvs))(hk:fk ρ=.ok (aj ks))(hl:kvs.length<=1000000):nu j fe fk ρ=.nx (ρ.set j (.od (ju kvs ks v))):=by unfold nu;rw[he,hj];show oR (fk ρ) ρ _=_;rw[hk];show(match lO (aj ks) with|some ks=>if kvs.length<=1000000 then Ou.nx _ else .no|none=>.no)=_;rw[iU];show(if kvs.length<=1000000 then Ou.nx _ else .no)=_;rw[if_pos hl]
noncomputable def GK(kvs:List (List Int×D)):Prop:=∀x∈kvs.map (·.1),Pair x
noncomputable abbrev sh(k:KL)(b:Bool):D:=.tup [.tup (k.map aj),.bl b]
structure GN (kvs:List (List Int×D)):Prop where
 pr:GK kvs
 nd:(kvs.map (·.1)).Nodup
theorem GN.put{kvs:List (List Int×D)}(h:GN kvs)(x y:Int)(d:D):GN (ju kvs [x,y] d):=by
 refine⟨fun z hz=>?_,?_⟩
 ·rcases(uD kvs [x,y] z d).mp hz with rfl|h'
  ·exact⟨x,y,rfl⟩
  ·exact h.pr z h'
 ·unfold ju;split
  ·have e:(kvs.map fun p=>if p.1=[x,y] then (p.1,d) else p).map (·.1)=kvs.map (·.1):=by rw[iF];refine nI fun p _=>?_;show(if p.1=[x,y] then (p.1,d) else p).1=p.1;split <;> rfl
   rw[e];exact h.nd
  ·rename_i c;rw[nV,List.nodup_append];refine⟨h.nd,by simp,fun a ha b hb=>?_⟩;simp only[cb,j4,d_]at hb;subst hb;rintro rfl;rw[mK]at c;exact c (decide_eq_true ha)
theorem GN.nil:GN []:=⟨fun _ h=>(by cases h),List.nodup_nil⟩
theorem RQ(p:List Int)(i:Int)(j:Nat)(hi:i=j)(hj:j < p.length):gU (aj p) (.int i)=.ok (.int (p.getD j 0)):=by subst hi;show gU (.tup (p.map D.int)) (.int j)=_;rw[HJ];unfold xR Pz;rw[if_pos (by lia),if_pos (by rw[cx];lia)];simp only[m9,sP,cK,du hj,vk,f6,rV]
theorem zT{L:KL}{E:aH->Rs D}{F:List Int->D}{ρ:aH}{fi:aH->Rs (List D)}{caps:List Nat}{cs:List Sl}(hs:dG 1 caps ρ=.no::cs)(hi:fi ρ=.ok (L.map aj))(hp:∀ks∈L,E (.fz (aj ks)::cs)=.ok (F ks))(hl:L.length<=1000) :
  dZ (aR 0) (fun _=>.ok true) E 1 caps fi ρ=.ok (.lst (L.map F)):=by
 refine JH hi ?_ (by rw[cx];lia);rw[hs];exact vA (fun ρ=>∃a,ρ=a::cs) aj F ⟨_,rfl⟩ (by
  rintro ks hk ρ ⟨a,rfl⟩;exact⟨_,rfl,hp ks hk,_,rfl⟩)
theorem Oi{X:aH->Rs Bool}{E:aH->Rs D}{t:List Int->Bool}{F:List Int->List Int}{cs:List Sl}:∀{L:KL},(∀ks∈L,X (.fz (aj ks)::cs)=.ok (t ks))->(∀ks∈L,E (.fz (aj ks)::cs)=.ok (aj (F ks)))->∀a,dX (aR 0) X E (L.map aj) (a::cs)=.ok (((L.filter t).map F).map aj)
 | [],_,_,a=>rfl
 |k::L,hx,he,a=>by
  have ih:=Oi (L:=L) (fun ks h=>hx ks (.tail _ h)) (fun ks h=>he ks (.tail _ h)) (.fz (aj k));have h1:=hx k (.head _);have h2:=he k (.head _);cases c:t k with
  |true =>
   rw[c]at h1;simp only[cb,dX,aR,gS,h1,h2,ih,Rs.bind,if_true,nE,c]
  |false =>
   rw[c]at h1;simp only[cb,dX,aR,gS,h1,h2,ih,Rs.bind,cn,if_false,nE,c]
theorem Kz{L:KL}{X:aH->Rs Bool}{E:aH->Rs D}{t:List Int->Bool}{F:List Int->List Int}{ρ:aH}{fi:aH->Rs (List D)}{caps:List Nat}{cs:List Sl}(hs:dG 1 caps ρ=.no::cs)(hi:fi ρ=.ok (L.map aj))(hx:∀ks∈L,X (.fz (aj ks)::cs)=.ok (t ks))(he:∀ks∈L,E (.fz (aj ks)::cs)=.ok (aj (F ks)))(hl:L.length<=1000) :
  dZ (aR 0) X E 1 caps fi ρ=.ok (.lst (((L.filter t).map F).map aj)):=by
 refine JH hi ?_ (by rw[cx,cx];have:=nX t L;lia);rw[hs];exact Oi hx he _
theorem rJ{L:KL}{X:aH->Rs Bool}{E:aH->Rs D}{t:List Int->Bool}{ρ:aH}{fi:aH->Rs (List D)}{caps:List Nat}{cs:List Sl}(hs:dG 1 caps ρ=.no::cs)(hi:fi ρ=.ok (L.map aj))(hx:∀ks∈L,X (.fz (aj ks)::cs)=.ok (t ks))(he:∀ks∈L,E (.fz (aj ks)::cs)=.ok (aj ks))(hl:L.length<=1000) :
  dZ (aR 0) X E 1 caps fi ρ=.ok (.lst ((L.filter t).map aj)):=by
 have:=Kz (F:=id) hs hi hx he hl;rwa [List.map_id]at this
noncomputable def ad(p t:List Int):List Int:=[p.getD 0 0 + t.getD 0 0,p.getD 1 0 + t.getD 1 0]
noncomputable def mi(s b:List Int):List Int:=[s.getD 0 0 - b.getD 0 0,s.getD 1 0 - b.getD 1 0]
theorem Ek(p t:List Int):Pair (ad p t):=⟨_,_,rfl⟩
theorem uF(p t:List Int):Pair (mi p t):=⟨_,_,rfl⟩
noncomputable def had(A:KL)(b:Bool)(x:List Int):Bool:=decide (x∈A) != b
section
variable{X:Cx}{K:ai}{B:Bs}{W:Wi}{σ:St}{G H:Hp}{ρ:aH}
theorem HS:∀{bw:List (List Int×V)}{ds:List D},bF K G ds (bw.map (·.2))->dD K G ((bw.map (·.1)).zip ds) bw
 | [],ds,h=>by rw[j4,List.zip_nil_left];exact .nil
 | (k,v)::bw,[],h=>by have:=bf.mp h;cases this
 | (k,v)::bw,d::ds,h=>by obtain⟨u,us,e,r1,r2⟩:=aO.mp h;cases e;exact .cons r1 (HS r2)
theorem KC{kvs:List (List Int×D)}{bw:List (List Int×V)}(h:dD K G kvs bw):bw.map (·.1)=kvs.map (·.1)/\bF K G (kvs.map (·.2)) (bw.map (·.2)):=by
 induction h with
 |nil=>exact⟨rfl,bf.mpr rfl⟩
 |cons r _ ih=>exact⟨by rw[cb,cb,ih.1],aO.mpr ⟨_,_,rfl,r,ih.2⟩⟩
theorem Cg{α β:Type}:∀l:List (α×β),(l.map (·.1)).zip (l.map (·.2))=l
 | []=>rfl
 |_::l=>by simp only[cb,wt,Cg l]
noncomputable abbrev cZ(kvs:List (List Int×D)):D:=.sy (kvs.map (·.1)) (kvs.map (·.2))
noncomputable def vB(ks:LL)(ds:List D)(k:List Int):Option D:=bT (ks.zip ds) k
theorem uG(kvs:List (List Int×D))(k:List Int):vB (kvs.map (·.1)) (kvs.map (·.2)) k=bT kvs k:=by unfold vB;rw[Cg]
theorem El{ks:LL}{ds:List D}{v:V}(r:Rep K G (.sy ks ds) v):∃a U bw,v=.ref a/\wk G a U bw/\(∀b js,U b js->UG K G b js)/\dD K G (ks.zip ds) bw:=by obtain⟨a,U,bw,e,h1,h2,h3,h4⟩:=rm.mp r;exact⟨a,U,bw,e,h1,h2,h3▸HS h4⟩
noncomputable def QB(i:Nat)(ρ:aH):aH:=match ρ[i]? with|some (.od kvs)=>ρ.set i (.fz (cZ kvs))|_=>ρ
theorem SR.QB{kvs:List (List Int×D)}{o:Obj}{a:ae}{U:ae->List Int->Prop}{bw:List (List Int×V)}(h:SR K B σ H ρ G){i:Nat}(q:ρ[i]?=some (.od kvs))(e1:σ[i]?=some (some (.ref a)))(h2:H a=some (.ext (jZ U a bw)))(h3:G a=none)(h4:B.2 a=none)
  (h5:∀b ks,U b ks->UG K G b ks) (h6:dD K G kvs bw):Same G (upd G a (.ext fun h=>h.get? a=some o/\jZ U a bw h))/\SR K B σ (upd H a (.ext fun h=>h.get? a=some o/\jZ U a bw h)) (ρ.set i (.fz (cZ kvs))) (upd G a (.ext fun h=>h.get? a=some o/\jZ U a bw h)):=by
 have hl:i < ρ.length:=(df.mp q).1;have gg:Same G (upd G a (.ext fun h=>h.get? a=some o/\jZ U a bw h)):=fun b o z=>by rw[aK (aP z h3)];exact z
 obtain⟨u1,u2⟩:=KC h6;refine⟨gg,⟨h.en.gg.trans gg,fun b o z=>?_,fun b o z=>?_,fun b xs z=>?_,fun b o z w=>?_⟩,by simp[h.len],fun j d z=>?_,fun j fs z wz=>?_,fun j k fs gs c z1 w1 z2 w2 z3 z4=>?_,fun j es c z1 z2=>?_,h.co.upd h2 fun _ z=>by cases z⟩
 ·rw[aK (aP z h4)];exact h.en.hh b o z
 ·by_cases w:b=a
  ·subst w;rw[aW]at z ⊢;exact z
  ·rw[aK w]at z ⊢;exact h.en.gh b o z
 ·by_cases w:b=a
  ·subst w;rw[aW]at z;cases z
  ·rw[aK w]at z ⊢;exact h.en.tp b xs z
 ·rw[aK (aP z h4)];exact h.en.nw b o z w
 ·by_cases e:i=j
  ·subst e;rw[di hl]at z;cases z;exact⟨_,e1,rm.mpr ⟨a,U,bw,rfl,⟨o,aW⟩,fun b js w=>Same.cV gg (h5 b js w),u1,u2.mono gg⟩⟩
  ·rw[cv e]at z;obtain⟨v,w1,w2⟩:=h.fz j d z;exact⟨v,w1,w2.mono gg⟩
 ·by_cases e:i=j
  ·subst e;rw[di hl]at z;cases z;cases wz
  ·rw[cv e]at z;obtain⟨b,us,w1,w2,w3,w4,w5⟩:=h.own j fs z wz;have hne:b≠a:=fun w=>by subst w;exact e (h.ap i j _ fs b q rfl z wz e1 w1)
   exact⟨b,us,w1,by rw[aK hne];exact w2,by rw[aK hne];exact w3,w4,w5.mono gg⟩
 ·have nj:i≠j:=fun e=>by subst e;rw[di hl]at z1;cases z1;cases w1
  have nk:i≠k:=fun e=>by subst e;rw[di hl]at z2;cases z2;cases w2
  rw[cv nj]at z1;rw[cv nk]at z2;exact h.ap j k fs gs c z1 w1 z2 w2 z3 z4
 ·have nj:i≠j:=fun e=>by subst e;rw[di hl]at z1;cases z1
  rw[cv nj]at z1;exact h.tie j es c z1 z2
noncomputable def zU(i:Nat)(g:aH->Ou):aH->Ou:=fun ρ=>g (QB i ρ)
theorem uH{st:List bj}{g:aH->Ou}(i:Nat)(h:rA X B W st g):rA X B W st (zU i g):=by
 intro pins s σ H De I hq;obtain⟨ρ,G,sr,p⟩:=hq;unfold zU QB at p;split at p
 ·rename_i kvs q;obtain⟨a,U,bw,e1,h2,h3,h4,h5,h6⟩:=sr.od q;obtain⟨hd,⟨o,ho⟩,hs⟩:=(show dW X.prog X.w H s.heap a (.ext (jZ U a bw)) from I.hok a _ h2)
  obtain⟨gg,sr'⟩:=sr.QB (o:=o) q e1 h2 h3 h4 h5 h6;have I':=I.write (x:=a) (e:=a) (t':=s.toks) (h':=s.heap) (o:=.ext fun h=>h.get? a=some o/\jZ U a bw h) (by rw[h2];trivial) (.inl rfl) (fun _ _ _ z=>z) ⟨o,ho⟩ ⟨⟨ho,hd⟩,⟨o,ho⟩,fun h1 h2 z k=>⟨k _ z.1,hs _ _ z.2 k⟩⟩;exact h pins s σ _ De I' ⟨_,_,sr',cP.same p gg⟩
 ·exact h pins s σ H De I ⟨_,_,sr,p⟩
noncomputable def zV:D->D->Rs D:=fun x y=>match x with
 | .sy ks ds=>(match lO y with
  |some k=>(match vB ks ds k with|some d=>.ok d|none=>.no)
  |none=>.no)
 |_=>.no
theorem ZS:Ms K (Vk K) zV:=by
 intro B W σ ρ G H x y v u Q s rx ry p;cases x with
 |sy ks ds =>
  unfold zV at p;dsimp only at p;cases e1:lO y with
  |none=>rw[e1]at p;exact p.elim
  |some k =>
   rw[e1]at p;dsimp only at p;obtain⟨a,U,bw,rfl,h1,h2,h3⟩:=El rx;obtain⟨b,rfl,hb⟩:=rE ry e1;unfold vB at p;rcases h3.get (ks:=k) with ⟨w1,w2⟩|⟨dd,vv,w1,w2,w3⟩
   ·rw[w1]at p;exact p.elim
   ·rw[w1]at p;exact⟨b,a,k,U,bw,vv,rfl,rfl,Same.cV s.en.gh hb,(h1.mono s.en.gh).at,fun c js z=>Same.cV s.en.gh (h2 c js z),w2,Post.ok s p w3⟩
 |_=>exact p.elim
theorem KD{a b:ah}{pos:Pos}{fa fb:aH->Rs D}(hu:X.A.units + 8 < bX)(ha:SE X B W a fa)(hb:SE X B W b fb)(hs:xT b:=by intro _ _;rfl):SE X B W (.Subscript a b pos) (bH zV fa fb) :=
 PE.imp (RN (Vn (zO hu)) ha hb hs) fun _ _ _ h=>yE ZS h
noncomputable def vC(neg:Bool):D->D->Rs D:=fun x y=>match y with
 | .sy ks ds=>(match lO x with
  |some k=>.ok (.bl (if neg then !(vB ks ds k).isSome else (vB ks ds k).isSome))
  |none=>.no)
 |_=>.no
theorem Oj{σ:St}{x y:D}{v u:V}{G H:Hp}{Q:V->Hp->Prop}(gh:Same G H)(rx:Rep K G x v)(ry:Rep K G y u){ks:LL}{ds:List D}{k:List Int}(ey:y=.sy ks ds)(e1:lO x=some k)(q:Q (.bl (vB ks ds k).isSome) H):NK K v u H Q:=by
 subst ey;obtain⟨a,U,bw,rfl,h1,h2,h3⟩:=El ry;obtain⟨b,rfl,hb⟩:=rE rx e1;refine⟨b,a,k,U,bw,rfl,rfl,Same.cV gh hb,(h1.mono gh).at,fun c js z=>Same.cV gh (h2 c js z),?_⟩;have:(mY bw k).isSome=(vB ks ds k).isSome:=by unfold vB;rcases h3.get (ks:=k) with ⟨q1,q2⟩|⟨_,_,q1,q2,_⟩ <;> rw[q1,q2] <;> rfl
 rw[this];exact q
theorem ZV:Ms K (NK K) (vC false):=by
 intro B W σ ρ G H x y v u Q s rx ry p;cases y with
 |sy ks ds =>
  unfold vC at p;dsimp only at p;cases e1:lO x with
  |none=>rw[e1]at p;exact p.elim
  |some k =>
   rw[e1]at p;simp only[cn,if_false]at p;exact Oj (σ:=σ) s.en.gh rx ry rfl e1 (Post.ok s p (cJ.mpr rfl))
 |_=>exact p.elim
theorem Wg:Ms K (Vq K) (vC true):=by
 intro B W σ ρ G H x y v u Q s rx ry p;cases y with
 |sy ks ds =>
  unfold vC at p;dsimp only at p;cases e1:lO x with
  |none=>rw[e1]at p;exact p.elim
  |some k =>
   rw[e1]at p;simp only[if_true]at p;exact Oj (σ:=σ) s.en.gh rx ry rfl e1 ⟨_,rfl,Post.ok s p (cJ.mpr rfl)⟩
 |_=>exact p.elim
section
variable{a b:ah}{pos:Pos}{fa fb:aH->Rs D}
theorem adB(hu:X.A.units + 8 < bX)(ha:SE X B W a fa)(hb:SE X B W b fb)(hm:i3 .In b=false:=by rfl):SE X B W (.Compare a [.In] [b] pos) (bH (vC false) fa fb):=Jy (NP (zO hu)) ZV ha hb hm
theorem Ol(hu:X.A.units + 8 < bX)(ha:SE X B W a fa)(hb:SE X B W b fb)(hm:i3 .NotIn b=false:=by rfl):ST X B W (.Compare a [.NotIn] [b] pos) (fT (bH (vC true) fa fb)):=sU (Vr (zO hu)) Wg ha hb hm
end
noncomputable def HW(j:Nat)(fs:aH->Rs (List D)):aH->Rs D:=fun ρ=>match ρ[j]? with
 |some (.fz (.sy ks ds))=>(fs ρ).bind fun es=>match es with
  | [k,w]=>(match lO k with|some k=>.ok ((vB ks ds k).getD w)|none=>.no)
  |_=>.no
 |_=>.no
theorem ZW(j:Nat){k d:ah}{x:Str}{p1 p2 cp:Pos}{fs:aH->Rs (List D)}(hu:X.A.units + 8 < bX)(ha:SA X B W [k,d] fs)(hN:X.N[j]?=some x:=by rfl)(hv:Ri X.env.scope x:=by first|exact Or.inl rfl|exact Or.inr (Or.inl rfl)|exact Or.inr (Or.inr rfl))(hd:uN x:=by decide)
  (hcd:Rq x:=by decide)
  (h1:mE (.Name x p1) "get" X.env (aS (.Name x p1) X.env)=aS (.Name x p1) X.env:=by rfl) (h2:bg [k,d] X.env=[(false,aS k X.env),(false,aS d X.env)]:=by rfl)
  (h3:((dt cp (bg [k,d] X.env)).all (fun q=>!q.1) && (j5 cp (j6 [] X.env)).all (fun q=>q.1.isSome) && decide (([k,d]:List ah).length + 0 + 0 < 30))=true:=by rfl)
  (h4:(p2.endLine == cp.line)=true:=by rfl) (h5:((dt cp (bg [k,d] X.env)).any fun q=>q.1)=false:=by rfl) :
  SE X B W (.Call (.Attribute (.Name x p1) "get" p2) [k,d] [] cp) (HW j fs):=by
 intro pins s σ H Q I ⟨ρ,G,sr,p⟩;have hvv:PE X (.Name x p1) (FW j):=nW hN hv hd hcd;unfold HW at p;cases e2:ρ[j]? with
 |none=>rw[e2]at p;exact p.elim
 |some z =>
  rw[e2]at p
  match z,p,e2 with
  | .fz (.sy ks ds),p,e2 =>
   obtain⟨vj,g1,rj⟩:=sr.fz j _ e2;obtain⟨d0,U0,Kc,rfl,g2,hU0,hk0⟩:=El rj;have g2H:=(g2.mono sr.en.gh).at
   refine tq h1 h3 h4 rfl (iK (hvv pins s σ H (fun y H1=>y=.ref d0/\H1=H) I ⟨_,g1,rfl,rfl⟩) fun v s1 fj=>?_);obtain⟨y,H1,I1,r1,hy,hH⟩:=fj;subst hy;subst hH;cases r1;obtain⟨φ,g2φ,hφ⟩:=g2H;obtain⟨o',es',ep',xs',w1,w2,_⟩:=hφ _ (I1.hok d0 _ g2φ).1;refine⟨"dict","dict.get",F.plainAttrs_dict,vS,F.type_dict_get,⟨o',w1,w2.1⟩,fun a ea=>?_,?_⟩
   ·cases ea;exact⟨o',w1,w2.2.1⟩
   have p':Post X.K W σ G H1 ((fs ρ).bind fun es=>match es with
     | [k,w]=>(match lO k with|some k=>.ok ((vB ks ds k).getD w)|none=>.no)
     |_=>.no) Q:=p
   have hA:=ha cp pins s1 σ H1 (fun vs H2=>Vp X.K (.ref d0) vs H2 Q) I1 ⟨ρ,G,sr,?_⟩
   ·rw[h2]at hA h5 ⊢;refine tx h5 (qh ?_);exact iK hA fun us s2 ⟨vs,H2,I2,r2,q2⟩=>NZ (zO hu) pins s2 σ H2 (.ref d0) vs (.ref d0) us Q I2 rfl r2 q2
   ·cases e:fs ρ with
    |no=>rw[e]at p';exact p'.elim
    |ex c n=>rw[e]at p';exact p'
    |ok es =>
     rw[e]at p';intro vs H' G' y r
     match es,p',r with
     | [],p',r=>exact p'.elim
     | [_],p',r=>exact p'.elim
     |_::_::_::_,p',r=>exact p'.elim
     | [k,w],p',r =>
      obtain⟨v1,vs1,rfl,r1,r2⟩:=aO.mp r;obtain⟨v2,vs2,rfl,r3,r4⟩:=aO.mp r2;cases bf.mp r4;have p3:Post X.K W σ G H1 (match lO k with|some k=>.ok ((vB ks ds k).getD w)|none=>.no) Q:=p';cases e1:lO k with
      |none=>rw[e1]at p3;exact p3.elim
      |some kk =>
       rw[e1]at p3;dsimp only at p3;obtain⟨b',rfl,hb⟩:=rE r1 e1;refine⟨b',d0,v2,kk,U0,Kc,rfl,rfl,Same.cV y.gh hb,⟨φ,y.hh _ _ g2φ,hφ⟩,fun c js z=>Same.cV (y.gg.trans y.gh) (hU0 c js z),?_⟩;unfold vB at p3;rcases hk0.get (ks:=kk) with ⟨w1,w2⟩|⟨dd,vv,w1,w2,w3⟩
       ·rw[w2];rw[w1]at p3;exact p3 v2 H' G' y r3
       ·rw[w2];rw[w1]at p3;exact p3 vv H' G' y (w3.mono y.gg)
  | .no,p,e2=>exact p.elim
  | .ow _,p,e2=>exact p.elim
  | .od _,p,e2=>exact p.elim
  | .op _,p,e2=>exact p.elim
  | .fz .non,p,e2=>exact p.elim
  | .fz (.bl _),p,e2=>exact p.elim
  | .fz (.int _),p,e2=>exact p.elim
  | .fz (.str _),p,e2=>exact p.elim
  | .fz (.tup _),p,e2=>exact p.elim
  | .fz (.lst _),p,e2=>exact p.elim
  | .fz (.su _ _),p,e2=>exact p.elim
  | .fz (.fn _),p,e2=>exact p.elim
  | .fz (.obj _ _ _),p,e2=>exact p.elim
end
end Vl
namespace L2
open PySem PySem.Spec PyProof.Rows
noncomputable def Itv(K:ai)(a:ae)(n:Nat):It :=
 ⟨fun i H=>∃xs x,jT K H a xs/\xs.length=n/\xs.reverse[i]?=some x,fun i H x H'=>H'=H/\∀xs,jT K H a xs->xs.reverse[i]?=some x,fun i H=>n<=i⟩
theorem Wh{P:aE}{w:az}{K:ai}{tg:ah}(a it:ae)(n:Nat)(hn:n<=100000):Turn P w K tg (Itv K a n) [it] it (fun i h=>i<=n/\h.sO it a ((n:Int) - 1 - (i:Int))) where
  mem:=by simp
  obj:=fun i h st b hb=>by
    have e:b=it:=by simpa using hb
    subst e;exact⟨_,st.2,fun v z=>by
      have z':Data.fields _=Data.cell v:=z;cases z'⟩
  keep:=fun i h h' st k=>⟨st.1,k it (by simp) _ st.2⟩
  item:=by
    intro X hP hw hK hc i pins s σ H E I hf st hg;subst hP hw hK;obtain⟨xs,x,hq,hl,hx⟩:=hg;obtain⟨its,rv,p,hz⟩:=I.tuple hq;have hi:i < n:=by have:=(df.mp hx).1;rw[List.length_reverse,hl]at this;exact this
    have hlen:its.length=n:=by rw[<- rv.length];exact hl
    rw[List.getElem?_reverse (by lia)]at hx;obtain⟨u,hu,ru⟩:=rv.get hx;obtain⟨f0,f1,f2,f3,f4,f5⟩:=hf it (by simp);have e:(n:Int) - 1 - (i:Int)=((n - 1 - i:Nat):Int):=by lia
    have hit:s.heap.sO it a ((n - 1 - i:Nat):Int):=e▸st.2;refine pZ hit p (by simp only[cE];lia) (x:=u) (by rw[hl]at hu;simpa using hu) fun h' tk st' sb=>?_;have I1:Inv X pins σ H { s with heap:=h',toks:=tk }:=I.turned (t':=tk) (fun b o hb e=>(sb.2 b hb).trans e) f0 f1 f3 f4 f5;have e2:((n - 1 - i:Nat):Int) - 1=(n:Int) - 1 - ((i + 1:Nat):Int):=by lia
    rw[e2]at st';refine⟨u,rfl,LQ (s:={ s with heap:=h',toks:=tk }) (n:="reversed") st' rfl rfl (by decide) ⟨x,H,I1,ru,⟨rfl,fun ys hy=>?_⟩,⟨hi,st'⟩,fun b hb=>(hf b hb).1⟩⟩;rw[I.oK hy hq,List.getElem?_reverse (by lia)];exact hx
  done := by
    intro X hP hw hK hc i pins s σ H E I hf st hg;subst hP hw hK;have hg':i=n:=Nat.le_antisymm st.1 hg;subst hg';obtain⟨f0,f1,f2,f3,f4,f5⟩:=hf it (by simp);have e:(i:Int) - 1 - (i:Int)=-1:=by lia
    have hit:s.heap.sO it a (-1):=e▸st.2;exact qG (I.ok.hd hc) hit fun h' eb=>⟨rfl,I.turned (t':=s.toks) (fun b o hb e=>eb b o hb e) f0 f1 f3 f4 f5⟩
  self:=fun _ _ _ _ _ st h=>oV st.2 h
section
variable{X:Cx}{tg:ah}
noncomputable def aia(K:ai)(ta:TA):TI:=fun σ H R=>ta σ H fun vs H1=>∃a xs,vs=[.ref a]/\jT K H1 a xs/\xs.length<=100000/\R (Itv K a xs.length) H1
theorem adC{l:ah}{ta:TA}{p pos:Pos}(hg:Gl X "reversed") (hm:X.mg "reversed"=none) (ha:PA X [l] ta) (hs:bg [l] X.env=[(false,aS l X.env)]:=by rfl):PI X tg (.Call (.Name "reversed" p) [l] [] pos) (aia X.K ta):=by
 intro pins s σ H R I h;refine Call_ (qj I hg hm PyProof.Rows.Boot.«reversed» (oj (iK (ha pos pins s σ H _ I h) fun us s1 ⟨vs,H1,I1,r1,q1⟩=>?_) hs rfl));obtain⟨a,xs,e,hq,hl,q⟩:=q1;subst e;obtain⟨u,rfl,rx⟩:=r1.one;cases rx;obtain⟨its,rv,pt,hz⟩:=I1.tuple hq;have hlen:its.length=xs.length:=rv.length.symm;refine rW pt (by simp only[cE];lia) fun tk=>?_;have st:(s1.heap.push (Oc a ((its.toArray.size:Int) - 1))).sO s1.heap.objs.size a ((its.toArray.size:Int) - 1):=cy _ rfl;refine oV (s:={ s1 with heap:=s1.heap.push (Oc a ((its.toArray.size:Int) - 1)),toks:=tk }) st ?_;refine⟨s1.heap.objs.size,[s1.heap.objs.size],_,Itv X.K a xs.length,H1,rfl,I1.kept (t':=tk) fun b o e=>bS _ e,Wh a _ _ hl,?_,fun b hb=>?_,q⟩
 ·have e:((xs.length:Nat):Int) - 1 - ((0:Nat):Int)=(its.toArray.size:Int) - 1:=by simp only[cE];lia
  refine⟨fR _,?_⟩;show Heap.sO _ _ a (((xs.length:Nat):Int) - 1 - ((0:Nat):Int));rw[e];exact st
 ·have e:b=s1.heap.objs.size:=by simpa using hb
  subst e;exact I1.CJ (bz _) (I1.hok.fresh (bz _))
end
end L2
namespace Vl
open PySem PySem.Spec L2
noncomputable def asV:D->Rs (List D)
 | .tup ds=>if ds.length<=100000 then .ok ds.reverse else .no
 |_=>.no
section
variable{X:Cx}{B:Bs}{W:Wi}{tg:ah}
theorem adD{e:ah}{p1 p2:Pos}{f:aH->Rs D}(hm:X.mg "reversed"=none) (hi:SE X B W e f) (hgl:Gl X "reversed":=by rfl) (hst:bg [e] X.env=[(false,aS e X.env)]:=by rfl):SI X B W tg (.Call (.Name "reversed" p1) [e] [] p2) (fL f asV):=by
 refine PI.imp (adC hgl hm (eN hi jJ (by rw[hst];rfl)) hst) fun σ H R ⟨ρ,G,s,p⟩=>⟨ρ,G,s,Dr p (fun d v H' G' ds e1 e rv k=>?_) (fun d c n z=>by cases d <;> first|cases z|(simp only[asV]at z;split at z <;> cases z))⟩
 cases d with
 |tup es =>
  simp only[asV]at e1;by_cases c:es.length<=100000
  ·rw[if_pos c]at e1;cases e1;obtain⟨a,vs,rfl,q,rr⟩:=bR.mp rv;refine⟨a,vs,rfl,Same.cV e.gh q,by rw[<- rr.length];exact c,k _ H' G' (.refl e.gh e.tp) ?_⟩;have rr':=Hz rr;intro i G1 H1 gg e';have q1:=Same.cV e'.gh (Same.cV gg q);refine⟨fun d hd=>?_,fun hl=>?_⟩
   ·obtain⟨v,hv,rv⟩:=rr'.get hd;refine⟨⟨vs,v,q1,rfl,hv⟩,fun x H2 y=>?_⟩;obtain⟨e2,y⟩:=y;subst e2;have:=y vs q1;rw[hv]at this;cases this;exact⟨G1,e',rv.mono gg⟩
   ·show vs.length<=i;rw[<- rr.length];simpa using hl
  ·rw[if_neg c]at e1;cases e1
 |_=>cases e1
end
end Vl
namespace Vl
open PySem PySem.Spec PySem.Calls PySem.W L2
noncomputable abbrev adE(X:Cx)(A:aI)(N:List Str)(s:af)(H:Hp)(qual:Str)(sc:Scope)(f:ae)(cd:aa):Cx where
 prog:=X.prog
 w:=X.w
 K:=X.K
 mg:=X.mg
 base:=X.base
 A:=A.deeper (envX qual sc s.heap.objs.size f cd (dF sc X.env))
 N:=N
 s₀:=s
 H₀:=H
 env:=envX qual sc s.heap.objs.size f cd (dF sc X.env)
 outer:=X.stack
 stack:=envX qual sc s.heap.objs.size f cd (dF sc X.env)::X.stack
 ex:=[]
 fn:=fun _=>false
 calm:=true
 pn:=[]
 xe:=fun _ _=>False
section
variable{X:Cx}{pins:List (ae×Obj)}{σ:St}{H:Hp}{s:af}
noncomputable def vD(v:V)(caps:List Nat)(σ:St):St:=some v::caps.map fun i=>(σ[i]?).getD none
theorem QC{A:aI}{qual:Str}{sc:Scope}{f:ae}{cd:aa}{p:Str}{Nc:List Str}{caps:List Nat}{v:V}{u:aa}{h':Heap}{tk:Nat}(c:rR X sc (p::Nc) 1 caps)(hp:sc.names.lookup p=some .local)(I:Inv X pins σ H s)(rv:RelV v u)(hA:A.handled=none)(hfr:A.frames=some X.stack)
  (hn:h'.Ns s.heap.objs.size fun x=>i9 x [(p,u)]) (hk:∀b o,s.heap.get? b=some o->h'.get? b=some o) :
  Inv (adE X A (p::Nc) s H qual sc f cd) [] (vD v caps σ) H { s with heap:=h',toks:=tk }:=by
 have Rj:∀{x:Str}{a:ae},(dF sc X.env).lookup x=some a->X.env.cells.lookup x=some a:=fun h=>c.cl I h;refine⟨⟨I.ok.mod,c.kind,rfl,rfl,bz _,fun x y a h1 h2=>I.ok.inj x y a (Rj h1) (Rj h2),fun x hx=>?_,fun x a hf=>absurd (show false=true from hf) uk,fun _=>hA,aI.frames_deeper hfr,.inr ⟨rfl,rfl⟩,fun b hb=>absurd (show b∈([]:List ae) from hb) (by simp),
  fun b o e=>I.bs b o e,et I.ok.Ru I.sz,fun b o e hb=>absurd (show b∈([]:List ae) from hb) (by simp),fun b hb=>absurd (show b∈([]:List ae) from hb) (by simp),I.stack,I.xP⟩,
  rfl,I.bare,Un.kept hk,⟨_,hn,fun i x v' h1 h2 h3=>?_⟩,fun x a ha=>?_,I.hok.fresh (bz _),fun x a ha=>I.jF x a (Rj ha),fun q hq=>absurd (show q∈([]:List (ae×Obj)) from hq) (by simp),I.hok.kept hk,?_⟩
 ·have hx':sc.names.lookup x=some .cell∨sc.names.lookup x=some .free:=hx;rcases hx' with hx'|hx'
  ·exact(c.Dm _ (g9 hx') rfl).elim
  ·exact ud (g9 hx')
 ·cases i with
  |zero =>
   have e1:p=x:=dk h1;subst e1;have e2:v=v':=dk (dk h2);subst e2;exact⟨u,rv,.inl ⟨hp,(show i9 p [(p,u)]=some u from mS)⟩⟩
  |succ i =>
   have h2':(caps.map fun i=>(σ[i]?).getD none)[i]?=some (some v'):=h2;have h1':Nc[i]?=some x:=h1;rw[cK]at h2';cases e:caps[i]? with
   |none=>rw[e]at h2';cases h2'
   |some k =>
    rw[e]at h2';have ZX:(σ[k]?).getD none=some v':=dk h2';have hs:σ[k]?=some (some v'):=by
     cases e3:σ[k]? with
     |none=>rw[e3]at ZX;cases ZX
     |some z=>rw[e3]at ZX;exact congrArg some ZX
    obtain⟨hX,hl0⟩:=c.cap i k x e (by rw[Nat.add_comm];exact h1');have hf:(x,eB.free)∈sc.names:=g9 hl0;obtain⟨m,_,hl⟩:=I.loc;have hkind:=c.fr _ hf rfl;obtain⟨u',r,l⟩:=hl k x v' hX hs (by rcases hkind with q|q;exact .inr (.inl q);exact .inr (.inr q));refine⟨u',r,.inr ⟨.inr hl0,?_⟩⟩;obtain⟨cc,hcc⟩:=ud (env:=X.env) hf;refine⟨cc,hcc,?_⟩;rcases l with ⟨q,_⟩|⟨_,c2,hc2,z⟩
    ·rcases hkind with q'|q' <;> (rw[q]at q';cases q')
    ·rw[Rj hcc]at hc2;cases hc2;obtain⟨o,ho,hd⟩:=z;exact⟨o,hk _ _ ho,hd⟩
 ·obtain⟨v',o,ho,hd⟩:=I.cell x a (Rj ha);exact⟨v',o,hk _ _ ho,hd⟩
 ·show(some v::caps.map _).length=(p::Nc).length;have:=c.len;simp only[cq,cx]at this ⊢;lia
theorem Wj{A:aI}{E:aa->af->Prop}{name qual:Str}{params:mw}{body:ah}{sc:Scope}{f c':ae}{pm ctv:aa}{p:Str}{Nc:List Str}{caps:List Nat}{v:V}{u:aa}{t:TE}{Q:VK}{R:aa->af->Prop}
  (c:rR X sc (p::Nc) 1 caps) (hp:sc.names.lookup p=some .local) (I:Inv X pins σ H s) (rv:RelV v u) (hA:A.handled=none) (hfr:A.frames=some X.stack) (hroom:A.depth < tj) (hco:sc.isCoroutine=false) (hgen:sc.isGenerator=false)
  (ho:s.heap.get? f=some (kla_obj name qual params body sc (dF sc X.env) pm c' ctv)) (hcd:s.heap.CodeRec (.ref c') qual) (hbind:bindArgs (kla_fn name qual params body sc (dF sc X.env) pm (.ref c') ctv) ⟨[u],[]⟩=pure [(p,u)])
  (hb:PE (adE X A (p::Nc) s H qual sc f (.ref c')) body t) (ht:t (vD v caps σ) H Q)
  (hQ:∀r s',(∃w H',s'.os=s.os/\qq s'.gens/\Un (oZ X.stack) [] H H' s.heap s'.heap/\tU X.prog X.w H' s'.heap/\RelV w r/\Q w H')->R r s') :
  ar (ax X.prog X.w) A (call (.ref f) [u]) R E s:=by
 refine qs (kla_callFunE hroom ho rfl hco hgen rfl hcd ?_);rw[hbind];refine a_ (wpAny_newFunctionEnv (fun y hy=>c.Dm y hy) (fun y hy=>by rw[d_.mp hy];exact hp) (fun h₁ hns hsb=>?_) c.kind);have hk:∀b o,s.heap.get? b=some o->h₁.get? b=some o:=fun b o e=>hsb.extBut b o (ck (bE e)) (bS _ e);refine⟨(I.ok.mod.nolimit.keeps I.bk).keeps hk,?_⟩;show fq _ _ (.expr body (envX qual sc s.heap.objs.size f (.ref c') (dF sc X.env))) _ _;refine kla_codeExpr ?_;have J:=QC (tk:=s.toks + [(p,u)].length) (qual:=qual) (f:=f) (cd:=.ref c') c hp I rv hA hfr hns hk;refine dS (hb [] _ (vD v caps σ) H Q J ht) (fun r s' ⟨w,H',J',Ys,q⟩=>?_) fun _ _ z=>z.elim;exact hQ r s' ⟨w,H',J'.os,J'.bare,J'.base,J'.hok,Ys,q⟩
end
section
variable{X:Cx}{pins:List (ae×Obj)}{σ:St}
noncomputable def afK(vs:Array aa)(c:Nat):Obj:={ cls:=.type "list",dict:=none,data:=.seq vs c,slots:=#[] }
noncomputable def Wk(X:Cx)(Pv:Hp->Prop)(k:Int)(H:Hp)(s:af)(r:aa)(s':af):Prop :=
 ∃t H',r=.int k t/\s'.os=s.os/\qq s'.gens/\Un (oZ X.stack) [] H H' s.heap s'.heap/\tU X.prog X.w H' s'.heap/\Pv H'
noncomputable abbrev Om(kf:Nat->Int):Nat->Nat->Bool:=fun i j=>decide (kf i > kf j)
theorem yg{H H':Hp}{s s':af}{b:ae}{o:Obj}(I:Inv X pins σ H s)(f:mj X pins H b)(e:s.heap.get? b=some o)(u:Un (oZ X.stack) [] H H' s.heap s'.heap):s'.heap.get? b=some o/\mj X pins H' b:=by have nf:b∉oZ X.stack:=fun z=>(bP.mp (I.sS b z)).elim f.2.1 f.2.2.1;exact⟨u.keep b o e f.1 nf (by simp),u.free b o e f.1 (by simp),f.2⟩
theorem aac{l f it S:ae}{fo:Obj}{xs:List V}{kf:Nat->Int}{Pv:Hp->Prop}{dv:aa}{R:Result->af->Prop}(hc:X.calm=true)(hSI:S≠it)(hl:∀H,Pv H->pU X.K H l xs)
  (turn:∀(j:Nat) (v:V) (u:aa) (s:af) (H:Hp),xs[j]?=some v->RelV v u->Inv X pins σ H s->Pv H->s.heap.get? f=some fo->ar (ax X.prog X.w) X.A.in1 (call (.ref f) [u]) (Wk X Pv (kf j) H s) (fun _ _=>False) s)
  (hf:∀(H H':Hp) (s s':af),Inv X pins σ H s->s.heap.get? f=some fo->Un (oZ X.stack) [] H H' s.heap s'.heap->H f=none->s'.heap.get? f=some fo/\H' f=none) (hfi:f≠it) (hfS:f≠S)
  (hR:∀(H:Hp) (s:af) (v:V) (u:aa),Inv X pins σ H s->Pv H->xs[c_ (Om kf) (xs.length - 1)]?=some v->RelV v u->R (.ok (.ret u)) s) :
  ∀(r j:Nat) (H:Hp) (s:af) (vb:V) (ub:aa) (tb:Tok) (c:Nat),xs.length - (j + 1)=r->j + 1<=xs.length->Inv X pins σ H s->Pv H->H f=none->mj X pins H it->mj X pins H S->s.heap.get? f=some fo->s.heap.IsListIter it l (j + 1) ->
   xs[c_ (Om kf) j]?=some vb->RelV vb ub->s.heap.get? S=some (afK #[ub,.int (kf (c_ (Om kf) j)) tb] c) ->
   fq (ax X.prog X.w) X.A (.builtin "max.loop" ⟨[.ref it,.ref f,.ref S],[("default",dv)]⟩) R s:=by
 have hname:(toString "max"++toString ".loop":String)="max.loop":=by decide
 intro r
 induction r with
 |zero =>
  intro j H s vb ub tb c hr hj I pv hfn fi fS hfo hit hvb rb hS;have hin:j + 1=xs.length:=by lia
  obtain⟨its,rv,p,hz⟩:=I.list (hl H pv);have hlen:its.length=xs.length:=rv.length.symm;have hli:l≠it:=fun z=>by subst z;obtain⟨o,ho,hc',_⟩:=p.isList;obtain⟨o',ho',hc'',_⟩:=hit;rw[ho]at ho';cases ho';rw[hc']at hc'';injection hc'' with z;exact absurd z (by decide)
  have W:=oD (prog:=X.prog) (w:=X.w) (A:=X.A.in1) (I.ok.hd hc) it l hli its.toArray;have hsz:its.toArray.size=xs.length:=by simp[hlen]
  refine j_ w9 ?_;rw[kH l3 _];show ar _ X.A.in1 (kL (.ref S) >>= _) _ _ _;refine ag (gu hS rfl ?_);show ar _ X.A.in1 (tryCatch (eD (.ref it)) _ >>= _) _ _ _;refine ag (iO (W.done _ _ _ ⟨by rw[hsz,<- hin];exact hit,p.isList⟩ fun h' tk' hk'=>?_));have hS':=hk' S _ (by simpa using hSI) hS;show ar _ X.A.in1 (kK S (fun _=>#[]) >>= _) _ _ _;refine ag ?_;refine iL hS' rfl (ag (iN (a_ ?_)));have I2:Inv X pins σ H { s with heap:=h'.update S (dA fun _=>#[]),toks:=tk' }:=I.pI (ch:=[it,S]) (fun b o hb e=>by
   have h1:b≠it:=fun z=>hb (by simp[z]);have h2:S≠b:=fun z=>hb (by simp[z]);exact(eC _ _ h2).trans (hk' b o (by simpa using h1) e)) (fun b hb=>by
   rcases bP.mp hb with z|hb
   ·rw[z];exact fi
   ·rw[d_.mp hb];exact fS)
  exact hR H _ vb ub I2 pv (by rw[<- hin];exact hvb) rb
 |succ r ih =>
  intro j H s vb ub tb c hr hj I pv hfn fi fS hfo hit hvb rb hS;have hlt:j + 1 < xs.length:=by lia
  obtain⟨its,rv,p,hz⟩:=I.list (hl H pv);have hlen:its.length=xs.length:=rv.length.symm;have hli:l≠it:=fun z=>by subst z;obtain⟨o,ho,hc',_⟩:=p.isList;obtain⟨o',ho',hc'',_⟩:=hit;rw[ho]at ho';cases ho';rw[hc']at hc'';injection hc'' with z;exact absurd z (by decide)
  have W:=oD (prog:=X.prog) (w:=X.w) (A:=X.A.in1) (I.ok.hd hc) it l hli its.toArray;have hsz:its.toArray.size=xs.length:=by simp[hlen]
  refine j_ w9 ?_;rw[kH l3 _];show ar _ X.A.in1 (kL (.ref S) >>= _) _ _ _;refine ag (gu hS rfl ?_);show ar _ X.A.in1 (tryCatch (eD (.ref it)) _ >>= _) _ _ _;refine ag (iO (W.item (j + 1) _ _ _ (by rw[hsz];exact hlt) ⟨hit,p.isList⟩ fun u h' tk' hP hst' hk'=>?_));have hu:its[j + 1]?=some u:=by simpa using hP
  obtain⟨v,hv,ru⟩:=Vals.get' rv hu;have I1:Inv X pins σ H { s with heap:=h',toks:=tk' }:=I.pI (ch:=[it]) (fun b o hb e=>hk' b o hb e) (fun b hb=>by rw[d_.mp hb];exact fi);have hS1:=hk' S _ (by simpa using hSI) hS;have hf1:=hk' f _ (by simpa using hfi) hfo;obtain⟨oI',hoI',hoc,hod⟩:=id hst'.1;show ar _ X.A.in1 (tryCatch (eL [u] (call (.ref f) [u])) _ >>= _) _ _ _;refine ag (iO (e_ (dS (turn (j + 1) v u _ H hv ru I1 pv hf1) (fun x s'' he=>?_) fun _ _ hF=>hF.elim)));obtain⟨t2,H2,rfl,os2,ba2,un2,ok2,pv2⟩:=he;have I2:Inv X pins σ H2 s'':=I1.call' (ch:=[]) os2 un2 ok2 ba2 (fun b z=>absurd z (by simp));obtain⟨hS2,fS2⟩:=yg I1 fS hS1 un2;obtain⟨hI2,fi2⟩:=yg I1 fi hoI' un2;obtain⟨hf2,aae⟩:=hf H H2 _ s'' I1 hf1 un2 hfn;have hit2:s''.heap.IsListIter it l (j + 1 + 1):=⟨oI',hI2,hoc,hod⟩
  show ar _ X.A.in1 (tryCatch (eL [u,.int (kf (j + 1)) t2] (pM .Gt (.int (kf (j + 1)) t2) (.int (kf (c_ (Om kf) j)) tb) >>= _)) _ >>= _) _ _ _;refine ag (iO (e_ (ag (CmpOf.ints_gt (prog:=X.prog) (w:=X.w) (A:=X.A.in1) (P:=fun i v=>∃t,v=.int (kf i) t) kf (fun i v h=>h) (j + 1) (c_ (Om kf) j) _ _ _ _ _ ⟨t2,rfl⟩ ⟨tb,rfl⟩ ?_))));refine ag (e_ (kR ?_));refine ag (iN (a_ ?_));cases hb:Om kf (j + 1) (c_ (Om kf) j) with
  |true =>
   have hb':decide (kf (j + 1) > kf (c_ (Om kf) j))=true:=hb;simp only[hb',if_true];refine ag ?_;refine iL hS2 rfl (ag (iN ?_));rw[hname];have kp:∀b o,b∉[S]->s''.heap.get? b=some o->(s''.heap.update S (dA fun _=>#[u,.int (kf (j + 1)) t2])).get? b=some o:=fun b o hb e=>(eC _ _ (fun z:S=b=>hb (by simp[z]))).trans e;have I3:Inv X pins σ H2 { s'' with heap:=s''.heap.update S (dA fun _=>#[u,.int (kf (j + 1)) t2]),toks:=s''.toks }:=I2.pI (ch:=[S]) kp (fun b hb=>by rw[d_.mp hb];exact fS2);have e1:c_ (Om kf) (j + 1)=j + 1:=by simp only[c_,hb,if_true]
   refine a_ ⟨ie l3 _,ih (j + 1) H2 _ v u t2 _ (by lia) hlt I3 pv2 aae fi2 fS2 (kp f _ (by simpa using hfS) hf2) ⟨oI',kp it _ (by simpa using hSI.symm) hI2,hoc,hod⟩ (by rw[e1];exact hv) ru (by rw[e1];exact gE _ hS2 rfl)⟩
  |false =>
   have hb':decide (kf (j + 1) > kf (c_ (Om kf) j))=false:=hb;simp only[hb',cn,if_false];refine ag (iN ?_);rw[hname];have e1:c_ (Om kf) (j + 1)=c_ (Om kf) j:=by simp only[c_,hb,cn,if_false]
   refine a_ ⟨ie l3 _,ih (j + 1) H2 _ vb ub tb c (by lia) hlt I2 pv2 aae fi2 fS2 hf2 hit2 (by rw[e1];exact hvb) rb (by rw[e1];exact hS2)⟩
end
section
variable{X:Cx}{pins:List (ae×Obj)}{σ:St}
theorem KH(a v d:aa):lj "max" ⟨[a],[("key",v),("default",d)]⟩:=by unfold lj;kernel_rfl
theorem QD{l f:ae}{fo:Obj}{xs:List V}{kf:Nat->Int}{Pv:Hp->Prop}{dv:aa}{Q:aa->af->Prop}{H:Hp}{s:af}(hc:X.calm=true)(I:Inv X pins σ H s)(pv:Pv H)(hl:∀H,Pv H->pU X.K H l xs)
  (turn:∀(j:Nat) (v:V) (u:aa) (s:af) (H:Hp),xs[j]?=some v->RelV v u->Inv X pins σ H s->Pv H->s.heap.get? f=some fo->ar (ax X.prog X.w) X.A.in1 (call (.ref f) [u]) (Wk X Pv (kf j) H s) (fun _ _=>False) s)
  (hfo:s.heap.get? f=some fo) (hfn:H f=none) (hff:f∉oZ X.stack)
  (hQ0:xs=[]->∀(H:Hp) (s:af),Inv X pins σ H s->Pv H->Q dv s)
  (hQ:∀(H:Hp) (s:af) (v:V) (u:aa),Inv X pins σ H s->Pv H->xs[c_ (Om kf) (xs.length - 1)]?=some v->RelV v u->Q u s) :
  ar (ax X.prog X.w) X.A (call (.builtin "max") [.ref l] [("key",.ref f),("default",dv)]) Q X.xe s:=by
 have hname:(toString "max"++toString ".loop":String)="max.loop":=by decide
 have hf:∀(H H':Hp) (s s':af),Inv X pins σ H s->s.heap.get? f=some fo->Un (oZ X.stack) [] H H' s.heap s'.heap->H f=none->s'.heap.get? f=some fo/\H' f=none:=fun H H' s s' _ e u n=>⟨u.keep f fo e n hff (by simp),u.free f fo e n (by simp)⟩
 refine PyProof.Rows.kmk_tree PySem.F.kind_max PySem.F.plain_max PySem.F.entry_max (KH _ _ _) ?_;show ar _ X.A.in1 (sN "max" ["key","default"] 0 ⟨[],[("key",.ref f),("default",dv)]⟩ >>= _) _ _ s;refine ag (jI (show sN "max" ["key","default"] 0 ⟨[],[("key",.ref f),("default",dv)]⟩=pure [some (.ref f),some dv] from by first|rfl|kernel_rfl) ?_);refine ag (a_ ?_);obtain⟨its,rv,p,hz⟩:=I.list (hl H pv);have hlen:its.length=xs.length:=rv.length.symm;refine ag (p_ p.isList ?_);refine ag (gz ?_);rw[hname];have sz:∀(h:Heap) (o:Obj),(h.push o).objs.size=h.objs.size + 1:=fun h o=>i_ ..;generalize hO:({ cls:=.type "list_iterator",data:=.fields #[.ref l,.int 0 0] }:Obj)=O at *;have adF:f < s.heap.objs.size:=bE hfo;have aic:l < s.heap.objs.size:=by obtain⟨_,e,_⟩:=p.isList;exact bE e
 have kp:∀b o,s.heap.get? b=some o->((s.heap.push O).push { cls:=.type "list",data:=.seq ([]:List aa).toArray }).get? b=some o:=fun b o e=>bS _ (bS _ e);have I1:Inv X pins σ H { s with heap:=(s.heap.push O).push { cls:=.type "list",data:=.seq ([]:List aa).toArray } }:=I.kept (t':=s.toks) kp;have fi:mj X pins H s.heap.objs.size:=I.CJ (bz _) (I.hok.fresh (bz _));have fS:mj X pins H (s.heap.push O).objs.size:=I.CJ (by rw[sz];lia) (I.hok.fresh (by rw[sz];lia));have hSI:(s.heap.push O).objs.size≠s.heap.objs.size:=by rw[sz];lia
 have hit:((s.heap.push O).push { cls:=.type "list",data:=.seq ([]:List aa).toArray }).IsListIter s.heap.objs.size l 0:=by subst hO;exact⟨_,bS _ (cy _ rfl),rfl,rfl⟩
 have hS:((s.heap.push O).push { cls:=.type "list",data:=.seq ([]:List aa).toArray }).get? (s.heap.push O).objs.size=some (afK #[] 0):=cy _ rfl;refine a_ ⟨ie l3 _,?_⟩;show fq (ax X.prog X.w) X.A (.builtin "max.loop" ⟨[.ref s.heap.objs.size,.ref f,.ref (s.heap.push O).objs.size],[("default",dv)]⟩) _ _;have W:=oD (prog:=X.prog) (w:=X.w) (A:=X.A.in1) (I.ok.hd hc) s.heap.objs.size l (ck aic) its.toArray;have hsz:its.toArray.size=xs.length:=by simp[hlen]
 refine j_ w9 ?_;rw[kH l3 _];show ar _ X.A.in1 (kL (.ref (s.heap.push O).objs.size) >>= _) _ _ _;refine ag (gu hS rfl ?_);show ar _ X.A.in1 (tryCatch (eD (.ref s.heap.objs.size)) _ >>= _) _ _ _;have hpl:(((s.heap.push O).push { cls:=.type "list",data:=.seq ([]:List aa).toArray })).IsList l its.toArray:=(p.isList.push _).push _;by_cases hn:xs=[]
 ·have h0:its.toArray.size=0:=by rw[hsz,hn];rfl
  refine ag (iO (W.done _ _ _ ⟨by rw[h0];exact hit,hpl⟩ fun h' tk' hk'=>?_));have I2:Inv X pins σ H { s with heap:=h',toks:=tk' }:=Inv.pI (s:={ s with heap:=(s.heap.push O).push { cls:=.type "list",data:=.seq ([]:List aa).toArray } }) (t':=tk') I1 (ch:=[s.heap.objs.size]) (fun b o hb e=>hk' b o hb e) (fun b hb=>by rw[d_.mp hb];exact fi);refine ag (f7 (a_ ?_));exact hQ0 hn H _ I2 pv
 ·have h0:0 < xs.length:=w_.mpr hn;refine ag (iO (W.item 0 _ _ _ (by rw[hsz];exact h0) ⟨hit,hpl⟩ fun u h' tk' hP hst' hk'=>?_));have hu:its[0]?=some u:=by simpa using hP
  obtain⟨v,hv,ru⟩:=Vals.get' rv hu;have I2:Inv X pins σ H { s with heap:=h',toks:=tk' }:=Inv.pI (s:={ s with heap:=(s.heap.push O).push { cls:=.type "list",data:=.seq ([]:List aa).toArray } }) (t':=tk') I1 (ch:=[s.heap.objs.size]) (fun b o hb e=>hk' b o hb e) (fun b hb=>by rw[d_.mp hb];exact fi);have hS1:=hk' _ _ (by simpa using hSI) hS;have hf1:=hk' f _ (by simpa using ck adF) (kp f _ hfo);obtain⟨oI',hoI',hoc,hod⟩:=id hst'.1;show ar _ X.A.in1 (tryCatch (eL [u] (call (.ref f) [u])) _ >>= _) _ _ _;refine ag (iO (e_ (dS (turn 0 v u _ H hv ru I2 pv hf1) (fun x s'' he=>?_) fun _ _ hF=>hF.elim)));obtain⟨t2,H2,rfl,os2,ba2,un2,ok2,pv2⟩:=he;have I3:Inv X pins σ H2 s'':=I2.call' (ch:=[]) os2 un2 ok2 ba2 (fun b z=>absurd z (by simp));obtain⟨hS2,fS2⟩:=yg I2 fS hS1 un2;obtain⟨hI2,fi2⟩:=yg I2 fi hoI' un2;obtain⟨hf2,aae⟩:=hf H H2 _ s'' I2 hf1 un2 hfn;refine ag ?_;refine iL hS2 rfl ?_;rw[hname];have kp3:∀b o,b∉[(s.heap.push O).objs.size]->s''.heap.get? b=some o->(s''.heap.update (s.heap.push O).objs.size (dA fun _=>#[u,.int (kf 0) t2])).get? b=some o:=fun b o hb e=>(eC _ _ (fun z:(s.heap.push O).objs.size=b=>hb (by simp[z]))).trans e;have I4:Inv X pins σ H2 { s'' with heap:=s''.heap.update (s.heap.push O).objs.size (dA fun _=>#[u,.int (kf 0) t2]),toks:=s''.toks }:=I3.pI (ch:=[(s.heap.push O).objs.size]) kp3 (fun b hb=>by rw[d_.mp hb];exact fS2);have hfS:f≠(s.heap.push O).objs.size:=fun z=>absurd adF (by rw[z,sz];exact Nat.not_lt.mpr (r0 _));refine a_ ⟨ie l3 _,aac (kf:=kf) (Pv:=Pv) (fo:=fo) hc hSI hl turn hf (ck adF) hfS (fun H s v u I pv e r=>hQ H s v u I pv e r) (xs.length - (0 + 1)) 0 H2 _ v u t2 _ rfl h0 I4 pv2 aae fi2 fS2 (kp3 f _ (by simpa using hfS) hf2) ⟨oI',kp3 _ _ (by simpa using hSI.symm) hI2,hoc,hod⟩ hv ru (gE _ hS2 rfl)⟩
end
section
variable{X:Cx}{pins:List (ae×Obj)}{σ:St}{H:Hp}{s:af}
theorem wU{pos:Pos}{l:List aa}{a b:Int}{ta tb:Tok}{c:aa}(h:TriplesOk l){v:aa}(e:l9 pos (l++[.int a ta,.int b tb,c])=some v):l9 pos l=some v∨v=c:=by
 fun_induction TriplesOk l with
 |case1 =>
  simp only[pS,l9]at e;split at e
  ·exact .inr (dk e).symm
  ·cases e
 |case2 i t j u d cj ih =>
  simp only[o_,l9]at e ⊢;split at e
  ·rename_i hc;rw[if_pos hc];exact .inl e
  ·rename_i hc;rw[if_neg hc];exact ih h e
 |case3=>exact h.elim
theorem Em{l:List aa}{a b:Int}{ta tb:Tok}{c:aa}(h:TriplesOk l):TriplesOk (l++[.int a ta,.int b tb,c]):=by
 fun_induction TriplesOk l with
 |case1=>trivial
 |case2 i t j u d cj ih=>exact ih h
 |case3=>exact h.elim
structure Made (X:Cx)(pins:List (ae×Obj))(σ:St)(H:Hp)(P:ae)(q:Str)(params:mw)(body:ah)(sc:Scope)(f c':ae)(pm ctv:aa)(H':Hp)(s':af):Prop where
 inv:Inv X pins σ H' s'
 hs:H'=H∨∃a,H a=none/\H'=upd H a (.Fz q)
 Fz:H' c'=some (.Fz q)
 obj:s'.heap.get? f=some (kla_obj "<lambda>" q params body sc (dF sc X.env) pm c' ctv)
 fn:H' f=none
 ff:f∉oZ X.stack
theorem Wm{P c:ae}{q:Str}{params:mw}{body:ah}{sc:Scope}{pos:Pos}(I:Inv X pins σ H s) (hP:H P=some (.tab q)) (hcode:X.env.code=.ref c) (hhd:iP X.K c P=true) (hq:X.env.qual++("<lambda>":Str)=q) (hex:X.ex=[])
  (hcl:closureFor sc X.env=pure (dF sc X.env)) (hdef:defaultsOf params X.env=([],[]))
  {R:aa->af->Prop}(hR:∀f c' pm ctv H' s',Made X pins σ H P q params body sc f c' pm ctv H' s'->R (.ref f) s') :
  ar (ax X.prog X.w) X.A (aS (.Lambda params body sc pos) X.env) R X.xe s:=by
 refine kla_eval hdef ?_;rw[hq];have hgs:s.heap.Ns bu X.mg:=I.ok.mod.glob.keeps I.bk;have C:CodeHd s.heap c P:=codeHd_of_K I.Jl hhd;obtain⟨ps,e1,e2,e3⟩:=(show dW X.prog X.w H s.heap P (.tab q) from I.hok P _ hP)
 obtain⟨bm,ob,b1,b2,b3,b4,b5,b6⟩:=I.ok.mod.bm;have b3s:=I.bk _ _ b3;have hgP:bu≠P:=fun z=>by obtain⟨o,es,ep,e,hd,_⟩:=hgs;rw[z,e1]at e;cases e;cases hd
 have hbP:bm≠P:=fun z=>by rw[z,e1]at b3s;cases b3s;cases b4
 have hbG:bm≠bu:=fun z=>by obtain⟨o,es,ep,e,hd,_⟩:=hgs;rw[z,e]at b3s;cases b3s;rw[hd]at b6;cases b6
 have hB:s.heap.BuiltinsAt X.mg P:=⟨bm,ob,b1,b2,hbG,hbP,b3s,b4,b5,b6⟩
 have Rv:∀{b:ae},s.heap.objs.size<=b->b∉oZ X.stack:=fun {b} hb z=>by
  rcases bP.mp (I.sS b z) with z|z
  ·exact absurd I.lt (by rw[<- z];exact Nat.not_lt.mpr hb)
  ·exact I.Rv hb z
 cases ca:l9 pos ps.toList with
 |some v =>
  obtain⟨c',rfl,hc'⟩:=e3 pos v ca;refine kla_makeFunctionHit (mg:=X.mg) hcl I.ok.glob hgs hcode C e1 e2 ca hB fun ctv h' tk hk hsz=>?_;have hk2:∀b o,s.heap.get? b=some o->(h'.push { cls:=.type "function",data:=.func (kla_fn "<lambda>" q params body sc (dF sc X.env) ((X.mg "__name__").getD .none) (.ref c') ctv) }).get? b=some o:=fun b o e=>bS _ (hk b o e);exact hR _ c' _ ctv H _ ⟨I.kept (t':=tk) hk2,.inl rfl,hc',cy _ rfl,I.hok.fresh hsz,Rv hsz⟩
 |none =>
  refine kla_makeFunction (mg:=X.mg) hcl I.ok.glob hgs hcode C e1 e2 ca hgP hB fun c' ctv h' tk hx hge hlt hrec htb=>?_;have hsz:s.heap.objs.size<=h'.objs.size:=et hge (iX hlt);have hcn:H c'=none:=I.hok.fresh hge;have hcP:c'≠P:=fun z=>by rw[z,hP]at hcn;cases hcn
  obtain⟨c2,oc,vs,t,ec,hoc,hod,hv⟩:=hrec;cases ec
  let O:Obj:=kla_obj "<lambda>" q params body sc (dF sc X.env) ((X.mg "__name__").getD .none) c' ctv
  have up:∀b u,H b=some u->upd H c' (.Fz q) b=some u:=fun b u e=>by rw[aK (aP e hcn)];exact e
  have hk2:∀b o,b≠P->s.heap.get? b=some o->(h'.push O).get? b=some o:=fun b o hb e=>bS _ (hx b o hb e);have afM:(h'.push O).get? P=some (tabObj (ps++#[dy pos.line,dy pos.col,.ref c'])):=bS _ htb;have un:Un (oZ X.stack) [] H (upd H c' (.Fz q)) s.heap (h'.push O):=by
   have old:∀b o,s.heap.get? b=some o->b≠c':=fun b o e=>ck (dm (bE e) hge);refine⟨fun b o e n _ _=>hk2 b o (fun z=>by rw[z,hP]at n;cases n) e,fun b o e n _ _=>⟨o.slots,hk2 b o (fun z=>by rw[z,hP]at n;cases n) e⟩,fun b o e n _=>by rw[aK (old b o e)];exact n,fun b o e _=>?_,fun b xs e=>up b _ e,fun b o u e=>up b _ e,fun b ps' e=>⟨#[],by rw[up b _ e];simp⟩⟩;by_cases hb:b=P
   ·subst hb;exact⟨_,afM⟩
   ·exact⟨o,hk2 b o hb e⟩
  have ok:tU X.prog X.w (upd H c' (.Fz q)) (h'.push O):=fun b u e=>by
   by_cases hbc:b=c'
   ·subst hbc;rw[aW]at e;cases e;exact⟨oc,vs,t,bS _ hoc,hod,hv⟩
   ·rw[aK hbc]at e;by_cases afN:b=P
    ·subst afN;rw[hP]at e;cases e;refine⟨_,afM,?_,fun pos' v' e'=>?_⟩
     ·rw[kc];exact Em e2
     ·rw[kc]at e';rcases wU e2 e' with e'|e'
      ·obtain⟨c3,h1,h2⟩:=e3 pos' v' e';exact⟨c3,h1,up _ _ h2⟩
      ·exact⟨c',e',aW⟩
    ·refine(I.hok b u e).stay (fun c3 v3 h3 e3'=>hk2 c3 v3 (fun z=>?_) e3') (fun c3 e3'=>up _ _ e3') (fun c3 xs e3'=>up _ _ e3') fun c3 q3 e3'=>up _ _ e3';subst z;rcases h3 with h3|h3
     ·exact afN h3.symm
     ·rw[hP]at h3;cases h3
  have I2:Inv X pins σ (upd H c' (.Fz q)) { s with heap:=h'.push O,toks:=tk }:=I.call' (ch:=[]) rfl un ok I.bare (fun b z=>absurd z (by simp));refine hR _ c' _ ctv _ _ ⟨I2,.inr ⟨c',hcn,rfl⟩,aW,cy _ rfl,?_,Rv hsz⟩;rw[aK (jS hlt)];exact I.hok.fresh hsz
end
noncomputable def H0(ts:List (ae×Str))(K:ai)(a:ae)(o:HO):Hp:=fun b=>match ts.lookup b with
 |some q=>some (.tab q)
 |none=>if b=a/\K.lookup a=none then some o else none
theorem Wn:∀{l:List (ae×Str)}{b:ae}{q:Str},l.lookup b=some q->(b,q)∈l
 | [],_,_,h=>by cases h
 | (c,r)::l,b,q,h=>by
  by_cases e:b=c
  ·subst e;rw[mS]at h;cases h;exact dC
  ·rw[i8,show(b == c)=false by simpa using e]at h;exact dP _ (Wn h)
theorem QF{P:aE}{w:az}{K:ai}{mg mb:Str->Option aa}{k:Nat}{fa a:ae}{fd:dq}{x:Str}{v:List D->Rs D}{s₁:af}{vs:List aa}{ns:List Int}{ts:List (ae×Str)}
  (KX:K.In s₁.heap) (hns:s₁.heap.Ns bu mg) (hb:s₁.heap.Ns builtinsNs mb) (hbb:∀x:Str,x≠"__name__"->mb x=gT x) (hlim:s₁.heap.NoLimit) (hbm:∃bm ob,mg "__builtins__"=some (.ref bm)/\bm≠builtinsNs/\s₁.heap.get? bm=some ob/\ob.cls=.type "module"/\ob.dict=some builtinsNs/\ob.data=.plain) (hg:s₁.gens=#[])
  (ha:s₁.heap.get? a=some { cls:=.type "list",data:=.seq vs.toArray }) (hi:PyProof.Rows.IntsAre vs ns) (hl:ns.length<=sizeLine) (hr:lH k mM)
  (F:∀base:Heap,K.In base->base.Ns bu mg->Gb P w K mg base (Bk P w K) k fa fd [x] (YK K 1 v)) (hbind:∀(s:af) (u:aa),ki s fd ⟨[u],[]⟩ [(x,u)])
  (hts:RX K=ts) (nd:(ts.map (·.1)).Nodup) (hK0:∀y∈ts,K.lookup y.1=none) (htab:∀y∈ts,s₁.heap.get? y.1=some (tabObj #[])) (hct:∀y∈ts,isCodeTable s₁.heap y.1) (hv:v [.lst (ns.map D.int)]=.ok (.bl true)) :
  fq (ax P w) mM (.call (.ref fa) ⟨[.ref a],[]⟩) (fun r s'=>r=.ok (.ret (.bool true))/\OldK s₁.heap s'.heap/\s'.os=s₁.os/\qq s'.gens) s₁:=by
 have rv:=qY hi;have lenV:=hi.length
 let o0:HO:=.yt { cls:=.type "list",data:=.seq vs.toArray } (.lst (ns.map V.int))
 let H:Hp:=H0 ts K a o0
 have lk:∀{b:ae}{q:Str},ts.lookup b=some q->(b,q)∈ts:=fun h=>Wn h;have lkm:∀{y:ae×Str},y∈ts->ts.lookup y.1=some y.2:=fun {y} hy=>by
  clear hts hK0 htab hct lk
  induction ts with
  |nil=>cases hy
  |cons z ts ih =>
   rw[cb,k7]at nd;rcases bP.mp hy with e|hy2
   ·subst e;obtain⟨y1,y2⟩:=y;exact mS
   ·have ne:y.1≠z.1:=fun e=>nd.1 (e▸sC hy2);obtain⟨z1,z2⟩:=z;rw[i8,show(y.1 == z1)=false by simpa using ne];exact ih nd.2 hy2
 have Oo:∀{b:ae}{u:HO},H b=some u->(∃q,(b,q)∈ts/\u=.tab q)∨(b=a/\K.lookup a=none/\u=o0):=fun {b u} e=>by
  have e':(match ts.lookup b with|some q=>some (HO.tab q)|none=>if b=a/\K.lookup a=none then some o0 else none)=some u:=e;cases h:ts.lookup b with
  |some q=>rw[h]at e';exact .inl ⟨q,lk h,(dk e').symm⟩
  |none =>
   rw[h]at e';dsimp only at e';by_cases c:b=a/\K.lookup a=none
   ·rw[if_pos c]at e';exact .inr ⟨c.1,c.2,(dk e').symm⟩
   ·rw[if_neg c]at e';cases e'
 have hok:tU P w H s₁.heap:=fun b u e=>by
  rcases Oo e with ⟨q,hq,rfl⟩|⟨rfl,_,rfl⟩
  ·exact⟨#[],htab _ hq,trivial,fun pos v z=>by cases z⟩
  ·exact⟨ha,by rw[cx];exact hl,vs,_,rv,ha⟩
 have En:∀{b:ae}{o:Obj},s₁.heap.get? b=some o->H b=none->(Cw s₁.heap H).get? b=some o:=fun e n=>Rr e n;have abj:∀{b:ae}{o:Obj},s₁.heap.get? b=some o->(∀vs n,o.data≠.seq vs n)->(∀vs,o.data≠.fields vs)->H b=none:=fun {b o} e d1 d2=>by
  cases q:H b with
  |none=>rfl
  |some u =>
   rcases Oo q with ⟨q',hq,rfl⟩|⟨rfl,_,rfl⟩
   ·have:=htab _ hq;rw[e]at this;cases this;exact(d2 _ rfl).elim
   ·rw[ha]at e;cases e;exact(d1 _ _ rfl).elim
 have nsK:∀{b:ae}{m:Str->Option aa},s₁.heap.Ns b m->(Cw s₁.heap H).Ns b m:=fun {b m} ⟨o,es,ep,e,d,r⟩=>⟨o,es,ep,En e (abj e (fun _ _ z=>by rw[d]at z;cases z) (fun _ z=>by rw[d]at z;cases z)),d,r⟩
 have hKb:K.In (Cw s₁.heap H):=fun b o e=>En (KX b o e) (by
  cases q:H b with
  |none=>rfl
  |some u =>
   rcases Oo q with ⟨q',hq,rfl⟩|⟨rfl,hk,rfl⟩
   ·rw[hK0 _ hq]at e;cases e
   ·rw[hk]at e;cases e)
 have hM:Mod K mg (Cw s₁.heap H):=⟨hKb,nsK hns,⟨mb,nsK hb,hbb⟩,let ⟨mc,h1,h2⟩:=hlim;⟨mc,nsK h1,h2⟩,let ⟨bm,ob,e1,e2,e3,e4,e5,e6⟩:=hbm;⟨bm,ob,e1,e2,En e3 (abj e3 (fun _ _ z=>by rw[e6]at z;cases z) (fun _ z=>by rw[e6]at z;cases z)),e4,e5,e6⟩⟩
 have e0:RL P w K mg (Cw s₁.heap H) mM [] s₁ H:=⟨rfl,hM,fun b o e=>Ye e,uC (OD _ _),trivial,fun b hb=>absurd (show b∈([]:List ae) from hb) (by simp),hok,.of_eq hg⟩
 have hS:pU K H a (ns.map V.int):=by
  cases hk:K.lookup a with
  |some o =>
   have e:=KX a o hk;rw[ha]at e;cases e;exact .inr ⟨_,vs.toArray,_,hk,rfl,rfl,rfl,by rw[cE,lenV];exact hl,by simpa using rv⟩
  |none =>
   refine .inl (.inr ⟨{ cls:=.type "list",data:=.seq vs.toArray },?_⟩);show(match ts.lookup a with|some q=>some (HO.tab q)|none=>if a=a/\K.lookup a=none then some o0 else none)=_;cases h:ts.lookup a with
   |some q=>have:=htab _ (lk h);rw[ha]at this;cases this
   |none=>dsimp only;rw[if_pos ⟨rfl,hk⟩]
 have hco:Yu K H:=fun y hy=>by rw[hts]at hy;show(match ts.lookup y.1 with|some q=>some (HO.tab q)|none=>_)=_;rw[lkm hy]
 have tp0:∀b xs,H b=some (.tup xs)->(fun b=>match H b with|some (.tab _)=>none|u=>u) b=some (.tup xs):=fun b xs e=>by dsimp only;rw[e]
 have hsp:YK K 1 v [.ref a] H (fun u H'=>u=.bl true/\∀y∈ts,H' y.1=some (.tab y.2)) (fun _ _ _=>False):=by
  let G:Hp:=fun b=>match H b with|some (.tab _)=>none|u=>u
  have gh:Same G H:=fun b u e=>by
   have e':(match H b with|some (.tab _)=>none|u=>u)=some u:=e;cases q:H b with
   |none=>rw[q]at e';cases e'
   |some z =>
    rw[q]at e';cases z with
    |tab _=>cases e'
    |_=>exact e'
  have hSG:pU K G a (ns.map V.int):=by
   rcases hS with (h|⟨o,h⟩)|h
   ·refine .inl (.inl ?_);show(match H a with|some (.tab _)=>none|u=>u)=_;rw[h]
   ·refine .inl (.inr ⟨o,?_⟩);show(match H a with|some (.tab _)=>none|u=>u)=_;rw[h]
   ·exact .inr h
  refine⟨rfl,G,[.lst (ns.map D.int)],⟨.refl gh tp0,hco⟩,bF.one (bJ.mpr ⟨a,_,rfl,hSG,uV ns⟩),?_⟩;rw[hv];exact fun u H' G' e r=>⟨cJ.mp r,fun y hy=>e.hh _ _ (hco y (by rw[hts];exact hy))⟩
 refine tJ ((F _ hKb (nsK hns)).run mM [] s₁ H ⟨[.ref a],[]⟩ [.ref a] [.ref a] _ _ hr e0 (hbind s₁ (.ref a)) (.cons rfl .nil) hsp) fun r s' h=>?_;cases r with
 |error e =>
  obtain⟨_,_,_,_,_,_,_,_,_,_,z⟩:=h;exact z.elim
 |ok fl =>
  cases fl with
  |next=>exact ik h
  |brk=>exact ik h
  |cont=>exact ik h
  |ret u =>
   obtain⟨v',H',os,bare,un,hok',r',q,qt⟩:=h;subst q;obtain rfl:u=aa.bool true:=r';have keep:∀b o,s₁.heap.get? b=some o->(∀q,(b,q)∉ts)->s'.heap.get? b=some o:=fun b o e nt=>by
    cases q:H b with
    |none=>exact un.keep b o e q (by intro z;exact absurd (show b∈([]:List ae) from z) (by simp)) (by simp)
    |some u =>
     rcases Oo q with ⟨q',hq,rfl⟩|⟨rfl,hk,rfl⟩
     ·exact(nt q' hq).elim
     ·have z2:=un.uO b _ _ q;obtain⟨e2,_⟩:=hok' b _ z2;rw[ha]at e;cases e;exact e2
   refine⟨rfl,⟨fun b o e=>?_,fun b o e=>un.there b o e (by simp)⟩,os,bare⟩;by_cases c:∃q,(b,q)∈ts
   ·obtain⟨q,hq⟩:=c;have e1:=htab _ hq;rw[e]at e1;cases e1;obtain⟨ps,e2,_⟩:=(show dW P w H' s'.heap b (.tab q) from hok' b _ (qt _ hq))
    exact .inr (.inl ⟨hct _ hq,rfl,#[],ps,rfl,by rw[e2];simp⟩)
   ·exact .inl (keep b o e fun q hq=>c ⟨q,hq⟩)
theorem Eo{K:ai}{h:Heap}{c P:ae}(X:K.In h)(e:iP K c P=true):isCodeTable h P:=by obtain⟨o,vs,_,_,_,_,_,_,_,h1,h2,h3,h4,_⟩:=codeHd_of_K X e;exact⟨c,o,vs,h1,h2,h3,h4⟩
theorem aaf{l:mI}{k:Nat}{q:aE}{loose:List Str}{XP:(Str->Option aa)->Heap->Prop}{YP:az->Heap->Prop}{d:DefRec}{K:Params->cS}{v:List D->Rs D}{ts:List (ae×Str)}(hn:l.most=some 63)(hdf:d.params.defaults=[])(hr:lH k mM)
  (hY:∀(w:az) (h:Heap),YP w h->(K w.params).In h) (hT:∀(w:az) (h:Heap),YP w h->∀y∈ts,h.get? y.1=some (tabObj #[])) (nd:(ts.map (·.1)).Nodup) (aif:∀w:az,RX (K w.params)=ts) (hK0:∀w:az,∀y∈ts,(K w.params).lookup y.1=none) (hcd:∀w:az,∀y∈ts,∃c,iP (K w.params) c y.1=true)
  (hv:∀ns:List Int,ns.length<=63->v [.lst (ns.map D.int)]=.ok (.bl true))
  (F:∀(w:az) (mg:Str->Option aa) (fa:ae) (h:Heap),(K w.params).In h->h.Ns bu mg->mg d.name=some (.ref fa) ->
   ∃fd:dq,(∀(s:af) (u:aa),ki s fd ⟨[u],[]⟩ [("script",u)])/\∀base:Heap,(K w.params).In base->base.Ns bu mg->Gb l.prog w (K w.params) mg base (Bk l.prog w (K w.params)) k fa fd ["script"] (YK (K w.params) 1 v)) :
  WalkO q loose XP YP l.row.toRowW d [] (fun f vs=>PySem.call f vs):=by
 refine Att.Gf hn hdf fun w s₀ s₁ mg mb fa o pm cd doc a vs ns G Y ho hd hcd' hmg hobj hints hlen hg=>?_;have KX:=hY w _ Y;obtain⟨fd,hb,hF⟩:=F w mg fa _ KX G.T.g hmg;exact QF KX G.T.g G.T.b G.T.builtins G.T.nolimit G.T.bmain hg hobj hints (et hlen (by decide)) hr hF hb (aif w) nd (hK0 w) (hT w _ Y) (fun y hy=>let ⟨c,e⟩:=hcd w y hy;Eo KX e) (hv ns hlen)
noncomputable def jW(d:D)(caps:List Nat)(ρ:aH):aH:=.fz d::caps.map fun i=>match ρ[i]? with|some (Sl.fz e)=>Sl.fz e|_=>Sl.no
noncomputable def qI(fb:aH->Rs D)(caps:List Nat)(ρ:aH):List D->Rs (List Int)
 | []=>.ok []
 |d::ds=>match fb (jW d caps ρ) with
  | .ok (.int k)=>(qI fb caps ρ ds).bind fun ks=>.ok (k::ks)
  |_=>.no
noncomputable def HX(ks:List Int):Nat:=c_ (Om fun j=>(ks[j]?).getD 0) (ks.length - 1)
noncomputable def HY(caps:List Nat)(fa fb fd:aH->Rs D):aH->Rs D:=fun ρ=>match fa ρ with
 | .ok (.lst ds)=>(match fd ρ with
  | .ok dd=>(match qI fb caps ρ ds with
   | .ok ks=>.ok ((ds[HX ks]?).getD dd)
   |_=>.no)
  |_=>.no)
 |_=>.no
theorem Ci{fb:aH->Rs D}{caps:List Nat}{ρ:aH}:∀{ds:List D}{ks:List Int},qI fb caps ρ ds=.ok ks->ks.length=ds.length
 | [],ks,h=>by cases h;rfl
 |d::ds,ks,h=>by
  simp only[qI]at h;split at h
  ·cases e:qI fb caps ρ ds with
   |ok ks'=>rw[e]at h;cases h;simp[Ci e]
   |ex c n=>rw[e]at h;cases h
   |no=>rw[e]at h;cases h
  ·cases h
theorem Cj{fb:aH->Rs D}{caps:List Nat}{ρ:aH}:∀{ds:List D}{ks:List Int}{j:Nat}{d:D},qI fb caps ρ ds=.ok ks->ds[j]?=some d->fb (jW d caps ρ)=.ok (.int ((ks[j]?).getD 0))
 | [],ks,j,d,h,e=>by simp at e
 |d::ds,ks,j,d',h,e=>by
  simp only[qI]at h;split at h
  ·rename_i k hk;cases e2:qI fb caps ρ ds with
   |ok ks' =>
    rw[e2]at h;cases h;cases j with
    |zero=>simp at e;subst e;simpa using hk
    |succ j=>simpa using Cj e2 (by simpa using e)
   |ex c n=>rw[e2]at h;cases h
   |no=>rw[e2]at h;cases h
  ·cases h
section
variable{X:Cx}{B:Bs}{W:Wi}{K:ai}
theorem zW{d:D}{caps:List Nat}{ρ:aH}:Gr (jW d caps ρ):=fun i z q w=>by
 unfold jW at q;cases i with
 |zero=>cases q;cases w
 |succ i =>
  rw[n8,cK]at q;cases e:caps[i]? with
  |none=>rw[e]at q;cases q
  |some k =>
   rw[e]at q;have q':(match ρ[k]? with|some (.fz d)=>Sl.fz d|_=>.no)=z:=dk q;split at q' <;> (subst q';cases w)
theorem adG{σ:St}{H G:Hp}{ρ:aH}{caps:List Nat}{d:D}{v:V}(s:SR K B σ H ρ G)(r:Rep K G d v):SR K ⟨G,H,0⟩ (vD v caps σ) H (jW d caps ρ) G:=by
 refine⟨s.uW,by simp[vD,jW],fun i d q=>?_,fun i z q w=>(zW i z q w).elim,fun i j z z' a q w=>(zW i z q w).elim,fun i ds a q=>(zW i _ q rfl).elim,s.co⟩;unfold jW at q;unfold vD;cases i with
 |zero=>cases q;exact⟨v,rfl,r⟩
 |succ i =>
  rw[n8,cK]at q;rw[n8,cK];cases e:caps[i]? with
  |none=>rw[e]at q;cases q
  |some k =>
   rw[e]at q;have q':(match ρ[k]? with|some (.fz d)=>Sl.fz d|_=>.no)=.fz d:=dk q;cases e2:ρ[k]? with
   |none=>rw[e2]at q';cases q'
   |some z =>
    rw[e2]at q';cases z with
    |fz d' =>
     cases q';obtain⟨v,h1,h2⟩:=s.fz k _ e2;exact⟨v,by simp[h1],h2⟩
    |no=>cases q'
    |ow _=>cases q'
    |od _=>cases q'
    |op _=>cases q'
theorem Inv.aii{pins:List (ae×Obj)}{σ:St}{H:Hp}{s:af}{f:ae}{o:Obj}(I:Inv X pins σ H s)(h1:s.heap.get? f=some o)(h2:H f=none)(h3:f∉oZ X.stack)(h4:f≠X.env.locals)(h5:∀v,o.data≠.cell v)(hfs:f∉X.fs):Inv X ((f,o)::pins) σ H s :=
 I.tV fun p hp=>by
  rcases bP.mp hp with e|hp
  ·subst e;exact⟨h1,h2,h4,hfs,h5⟩
  ·exact I.pin p (fg _ hp)
theorem aag{a body ed:ah}{params:mw}{sc:Scope}{lp p pos k1 k2:Pos}{P c:ae}{q pn:Str}{Nc:List Str}{caps:List Nat}{fa fb fd:aH->Rs D}{k:Nat}
  (hc:X.calm=true) (hex:X.ex=[]) (hr:lH k X.A) (hm:X.mg "max"=none) (hg:Gl X "max") (ha:SE X B W a fa) (hd:SE X B W ed fd)
  (cp:rR X sc (pn::Nc) 1 caps) (hp:sc.names.lookup pn=some .local)
  (hb:∀s H f cd B',SE (adE X X.A.in1 (pn::Nc) s H q sc f cd) B' WF body fb)
  (hP:(P,q)∈RX X.K) (hcode:X.env.code=.ref c) (hhd:iP X.K c P=true) (hq:X.env.qual++("<lambda>":Str)=q)
  (hdef:defaultsOf params X.env=([],[])) (hco:sc.isCoroutine=false) (hgen:sc.isGenerator=false)
  (hbind:∀(pm ctv u:aa) (c':ae),bindArgs (kla_fn "<lambda>" q params body sc (dF sc X.env) pm (.ref c') ctv) ⟨[u],[]⟩=pure [(pn,u)])
  (hst:bg [a] X.env=[(false,aS a X.env)]:=by rfl)
  (he:dt pos (bg [a] X.env)=(false,aS a X.env)::dt pos (bg [] X.env):=by rfl)
  (hplain:(dt pos (bg [a] X.env)).any (·.1)=false:=by rfl)
  (hall:(j5 pos (j6 [⟨some "key",.Lambda params body sc lp,k1⟩,⟨some "default",ed,k2⟩] X.env)).all (·.1.isSome)=true:=by rfl)
  (hkw:(j5 pos (j6 [⟨some "key",.Lambda params body sc lp,k1⟩,⟨some "default",ed,k2⟩] X.env)).any (·.1.isNone)=false:=by rfl)
  (hnm:(j5 pos (j6 [⟨some "key",.Lambda params body sc lp,k1⟩,⟨some "default",ed,k2⟩] X.env)).filterMap (·.1)=[("key":Str),("default":Str)]:=by rfl) :
  SE X B W (.Call (.Name "max" p) [a] [⟨some "key",.Lambda params body sc lp,k1⟩,⟨some "default",ed,k2⟩] pos) (HY caps fa fb fd):=by
 intro pins s σ H Q I ⟨ρ,G,sr,h⟩;unfold HY at h;cases ea:fa ρ with
 |no=>rw[ea]at h;exact h.elim
 |ex _ _=>rw[ea]at h;exact h.elim
 |ok da =>
  rw[ea]at h;cases da with
  |lst ds =>
   dsimp only at h;cases ed':fd ρ with
   |no=>rw[ed']at h;exact h.elim
   |ex _ _=>rw[ed']at h;exact h.elim
   |ok dd =>
    rw[ed']at h;dsimp only at h;cases ek:qI fb caps ρ ds with
    |no=>rw[ek]at h;exact h.elim
    |ex _ _=>rw[ek]at h;exact h.elim
    |ok ks =>
     rw[ek]at h;dsimp only at h;have pst:∀v H' G',Ext G H G' H'->Rep X.K G' ((ds[HX ks]?).getD dd) v->Q v H':=h;refine qf (qj I hg hm rfl ?_ (by decide) (by decide));refine PyProof.Rows.callWith_kw ?_ he hplain hall hkw;rw[hnm];refine iK (eN ha jJ hst pos pins s σ H (fun vs H1=>∃v G1,vs=[v]/\Ext G H G1 H1/\Rep X.K G1 (.lst ds) v) I ⟨ρ,G,sr,?_⟩) fun us s1 ⟨vs,H1,I1,r1,v1,G1,e1,x1,rp1⟩=>?_
     ·rw[ea];exact fun v H1 G1 x r=>⟨v,G1,rfl,x,r⟩
     subst e1;obtain⟨l,xs,rfl,hl,rxs⟩:=bJ.mp rp1;cases r1 with|cons rl r1 =>
     cases r1;cases rl;have sr1:=sr.ext x1;refine PyProof.Rows.kws_cons (Wm I1 (sr1.co _ hP) hcode hhd hq hex (pX (cp.cells I1)) hdef fun f c' pm ctv H2 s2 M=>?_);have x2:Ext G1 H1 G1 H2:=by
      rcases M.hs with e|⟨a',n,e⟩
      ·rw[e];exact sr1.uW
      ·rw[e];exact CV sr1.en.gh sr1.en.tp (fun _ z=>by cases z) n
     have sr2:=sr1.ext x2;have hfs:f∉X.fs:=fun z=>M.ff (by
      rcases I.ok.stk with e|⟨e,_⟩
      ·rw[e];exact z
      ·rw[e];unfold oZ;rw[l_];split
       ·exact z
       ·exact dP _ z)
     have hfl:f≠X.env.locals:=fun z=>by obtain⟨m,⟨o,es,ep,e,d,_⟩,_⟩:=M.inv.loc;have:=M.obj;rw[z,e]at this;cases this;cases d
     have I2:=Inv.aii M.inv M.obj M.fn M.ff hfl (fun v z=>by cases z) hfs;refine PyProof.Rows.kws_cons (iK (hd _ s2 σ H2 (fun v H3=>∃G3,Ext G1 H2 G3 H3/\Rep X.K G3 dd v) I2 ⟨ρ,G1,sr2,?_⟩) fun u3 s3 ⟨v3,H3,I3,r3,G3,x3,rp3⟩=>?_)
     ·rw[ed'];exact fun v H3 G3 x r=>⟨G3,x,r⟩
     refine PyProof.Rows.kws_nil ?_;have sr3:=sr2.ext x3;have x03:Ext G H G3 H3:=(x1.trans x2).trans x3;have hf3:=I3.pin (f,_) (fg _ dC);have I4:Inv X pins σ H3 s3:=I3.tV fun p hp=>I3.pin p (fg _ (dP _ hp));have hl3:pU X.K G3 l xs:=Same.seq (x2.gg.trans x3.gg) hl;have afP:bF X.K G3 ds xs:=rxs.mono (x2.gg.trans x3.gg);have hlen:ks.length=xs.length:=by rw[Ci ek,rxs.length]
     refine QD (kf:=fun j=>(ks[j]?).getD 0) (xs:=xs) (Pv:=fun H'=>∃G',Ext G3 H3 G' H') hc I4 ⟨G3,sr3.uW⟩ (fun H' ⟨G',x⟩=>Same.seq (x.gg.trans x.gh) hl3) (fun j v u s' H' hj rv I' pv ho=>?_) hf3.1 hf3.2.1 M.ff (fun hn H' s' I' ⟨G',x⟩=>?_) fun H' s' v u I' ⟨G',x⟩ hv ru=>?_
     ·obtain⟨G',x'⟩:=pv;obtain⟨d,hdj,rd⟩:=afP.get' hj;have abv:H' c'=some (.Fz q):=x'.hh _ _ (x3.hh _ _ M.Fz);obtain⟨oc,vs,t,hoc,hod,hov⟩:=(show dW X.prog X.w H' s'.heap c' (.Fz q) from I'.hok c' _ abv)
      refine Wj (A:=X.A.in1) (t:=tF X.K ⟨G',H',0⟩ WF fb) (Q:=fun w CZ=>w=.int ((ks[j]?).getD 0)/\∃G'',Ext G3 H3 G'' CZ) cp hp I' rv hr.hd I'.ok.frames hr.depth hco hgen ho ⟨c',oc,vs,t,rfl,hoc,hod,hov⟩ (hbind _ _ _ _) (hb _ _ _ _ _) ⟨jW d caps ρ,G',adG (sr3.ext x') (rd.mono x'.gg),?_⟩ fun r s'' ⟨w,CZ,h1,h2,h3,h4,h5,h6,h7⟩=>?_
      ·rw[Cj ek hdj];exact fun w CZ G'' x r=>⟨bA.mp r,G'',x'.trans x⟩
      ·subst h6;obtain⟨t,rfl⟩:=h5;exact⟨t,CZ,rfl,h1,h2,h3,h4,h7⟩
     ·subst hn;have:ds=[]:=by have:=rxs.length;simpa using this
      subst this;exact⟨v3,H',I',r3,pst v3 H' G' (x03.trans x) (by simpa using rp3.mono x.gg)⟩
     ·obtain⟨d,hd1,hd2⟩:=afP.get' hv;have:ds[HX ks]?=some d:=by unfold HX;rw[hlen];exact hd1
      exact⟨v,H',I',ru,pst v H' G' (x03.trans x) (by rw[this];exact hd2.mono x.gg)⟩
  |_=>exact h.elim
end
end Vl
namespace Dk
open PySem PySem.Spec
section
variable{prog:aE}{w:az}{A:aI}{E:aa->af->Prop}{s:af}{es:Array oy}{ep:Nat}{D:ae}
theorem aah{R:Result->af->Prop}(hh:A.handled=none) (hd:(D == ij)=false) (ho:oW s.heap D es ep) (hn:es.size<=1000) (S:ae) (res:aa) (c₀:Nat) (hDS:D≠S) (hS:s.heap.get? S=some { cls:=.type "list",data:=.seq #[] c₀ })
  (hR:∀h' tk acc' c',(∀b o,b≠S->s.heap.get? b=some o->h'.get? b=some o)->h'.get? S=some { cls:=.type "list",dict:=none,data:=.seq acc' c',slots:=#[] } ->
   pE (fun i v=>∃e,es[i]?=some e/\v=e.key) acc' es.size->R (.ok (.ret res)) { s with heap:=h',toks:=tk }) :
  ar (ax prog w) A.in1 (nS (.ref S) (.ref D) res)
   (fun dY s'=>match dY with|.done f=>R (.ok f) s'|.again c'=>c'.quiet=true/\fq (ax prog w) A c' R s') (fun e s'=>R (.error e) s') s:=by
 have hSlt:S < s.heap.objs.size:=bE hS;have HD:D < s.heap.objs.size:=by obtain⟨o,e,_⟩:=id ho;exact bE e
 have W:=(Vu (prog:=prog) (w:=w) (A:=A.in1) (d:=D) (it:=s.heap.objs.size) (es:=es) (ep:=ep) (by simpa using hh) (ck HD)).toS;have hSf:S∉[s.heap.objs.size,D]:=by simp only[bP,eT,or_false,not_or];exact⟨ck hSlt,b_ hDS⟩
 have key:∀(h:Heap) (c₁ tk:Nat),h.get? s.heap.objs.size=some (Qu D 0 es.size ep)->(∀b o,b≠S->s.heap.get? b=some o->h.get? b=some o) ->
   h.get? S=some { cls:=.type "list",data:=.seq #[] c₁ }->fq (ax prog w) A (.builtin "list.extend.loop" ⟨[.ref S,.ref s.heap.objs.size,res],[]⟩) R { s with heap:=h,toks:=tk }:=by
  intro h c₁ tk hit hk hS₁;refine codeAny_extend_loopS W (by rw[eM];lia) S hSf res es.size 0 _ #[] c₁ rfl (fR _) ⟨Vt hit,ho.go fun o e=>hk _ _ hDS e⟩ hS₁ (pE.nil _) fun s' acc' c' hm hS' hacc=>?_;rw[Moved.eq_with hm];refine hR s'.heap s'.toks acc' c' (fun b o hb e=>hm.heap b o (fun hmem=>?_) (hk b o hb e)) hS' hacc;rcases bP.mp hmem with e'|hmem
  ·exact hb e'
  ·exact absurd (bE e) (by rw[d_.mp hmem];exact fw _)
 unfold nS;refine ag (we ho.ty ?_);have h1:sx (.ref S) (.ref D)=false:=by simp[sx,b_ hDS]
 have h2:(aa.type "dict" == aa.type "list")=false:=by decide
 have h3:(aa.type "dict" == aa.type "tuple")=false:=by decide
 simp only[h1,h2,h3,Bool.or_self,Bool.or_false,cn,if_false];refine ag (abe hd ho ?_);have hD2:oW (s.heap.push (Qu D 0 es.size ep)) D es ep:=ho.go fun o e=>bS _ e;have hS₁:=bS (Qu D 0 es.size ep) hS;have hI:(s.heap.push (Qu D 0 es.size ep)).get? s.heap.objs.size=some (Qu D 0 es.size ep):=cy _ rfl;refine ag (e_ (abf hD2 ?_));refine wpAny_ite_split (fun _=>?_) (fun _=>a_ ⟨ie wm _,key _ c₀ _ hI (fun b o _ e=>bS _ e) hS₁⟩);refine ag (f7 ?_);refine ag ?_;show ar _ _ (kK S (·.push .none) >>= fun _=>kK S (·.pop)) _ _ _;refine ag (iL hS₁ rfl ?_);have hS₂:=gE (dA (·.push aa.none)) hS₁ rfl;refine iL (hz:=by seq_fits) hS₂ rfl ?_;have hS₃:=gE (dA (·.pop)) hS₂ rfl;have hSI:S≠s.heap.objs.size:=ck hSlt;refine a_ ⟨ie wm _,key _ _ _ ?_ (fun b o hb e=>?_) hS₃⟩
 ·exact(eC _ _ hSI).trans ((eC _ _ hSI).trans hI)
 ·exact(eC _ _ (b_ hb)).trans ((eC _ _ (b_ hb)).trans (bS _ e))
theorem afQ{R:Result->af->Prop}(hh:A.handled=none) (hd:(D == ij)=false) (ho:oW s.heap D es ep) (hn:es.size<=1000) (S:ae) (hDS:D≠S) (hS:s.heap.get? S=some { cls:=.type "list",data:=.seq #[] })
  (hR:∀h' tk acc' c',(∀b o,b≠S->s.heap.get? b=some o->h'.get? b=some o)->h'.get? S=some { cls:=.type "list",dict:=none,data:=.seq acc' c',slots:=#[] } ->
   pE (fun i v=>∃e,es[i]?=some e/\v=e.key) acc' es.size->R (.ok (.ret .none)) { s with heap:=h',toks:=tk }) :
  ar (ax prog w) A.in1 (Builtin.«list.__init__» ⟨[.ref S,.ref D],[]⟩)
   (fun dY s'=>match dY with|.done f=>R (.ok f) s'|.again c'=>c'.quiet=true/\fq (ax prog w) A c' R s') (fun e s'=>R (.error e) s') s:=by
 show ar _ _ (do let old <- cw.List.listItems (.ref S);cw.List.listUpdate (.ref S) (fun _=>#[]);letGo old.toList.reverse;nS (.ref S) (.ref D) .none) _ _ s;refine ag ?_;unfold cw.List.listItems;refine ag (gu hS rfl (a_ ?_));show ar _ _ (kK S (fun _=>#[]) >>= fun _=>letGo (#[]:Array aa).toList.reverse >>= fun _=>nS (.ref S) (.ref D) .none) _ _ s;refine ag (iL hS rfl ?_);have hS₂:=gE (dA (fun _=>(#[]:Array aa))) hS rfl;have oth:∀b o,b≠S->s.heap.get? b=some o->(s.heap.update S (dA (fun _=>(#[]:Array aa)))).get? b=some o :=
  fun b o hb e=>(eC _ _ (b_ hb)).trans e
 refine ag (iN ?_);refine aah hh hd (ho.go fun o e=>oth _ _ hDS e) hn S .none _ hDS hS₂ fun h' tk acc' c' hk hS' hacc=>?_;exact hR h' tk acc' c' (fun b o hb e=>hk b o hb (oth b o hb e)) hS' hacc
theorem KJ{Q:aa->af->Prop}(hh:A.handled=none)(hd:(D == ij)=false)(ho:oW s.heap D es ep)(hn:es.size<=1000)
  (hQ:∀h' tk acc' c',(∀b o,s.heap.get? b=some o->h'.get? b=some o) ->
   h'.get? s.heap.objs.size=some { cls:=.type "list",dict:=none,data:=.seq acc' c',slots:=#[] }->pE (fun i v=>∃e,es[i]?=some e/\v=e.key) acc' es.size->Q (.ref s.heap.objs.size) { s with heap:=h',toks:=tk }) :
  ar (ax prog w) A (call (.type "list") [.ref D]) Q E s:=by
 have HD:D < s.heap.objs.size:=by obtain⟨o,e,_⟩:=id ho;exact bE e
 refine callType_codes (Q₁:=fun obj s₁=>obj=.ref s.heap.objs.size/\s₁={ s with heap:=s.heap.push { cls:=.type "list",data:=.seq #[] } }) F.called_list (F.typeCall_list_1 _) F.entry_list_init
  (code_list_new _ ⟨rfl,rfl⟩) fun obj s₁ h₁=>?_
 obtain⟨rfl,rfl⟩:=h₁;have hS:(s.heap.push { cls:=.type "list",data:=.seq #[] }).get? s.heap.objs.size=some { cls:=.type "list",data:=.seq #[] }:=cy _ rfl;refine⟨⟨_,hS,rfl⟩,F.args_list_init_2 _ _,afQ (A:=A.in1) hh hd (ho.go fun o e=>bS _ e) hn _ (ck HD) hS fun h' tk acc' c' hk hS' hacc=>?_⟩;exact⟨rfl,hQ h' tk acc' c' (fun b o e=>hk b o (ck (bE e)) (bS _ e)) hS' hacc⟩
end
end Dk
namespace Vl
open PySem PySem.Spec PySem.Calls PySem.W L2
section
variable{X:Cx}{B:Bs}{W:Wi}{K:ai}
theorem Ck:∀ys:List (List Int×ae×aa),Vals (ys.map fun x=>V.ref x.2.1) (ys.map fun x=>aa.ref x.2.1)
 | []=>.nil
 |_::ys=>.cons rfl (Ck ys)
theorem Ia(hc:X.calm=true):gj X (.type "list") (fun xs H Q=>∃(a:ae) (U:ae->List Int->Prop) (bw:List (List Int×V)),xs=[.ref a]/\wj H a U bw/\(∀b ks,U b ks->UG X.K H b ks)/\bw.length < 1000 /\
  ∀l zs,H l=none->zs.length=bw.length->(∀(i:Nat) v,zs[i]?=some v->∃b,v=.ref b/\U b ((bw.map (·.1)).getD i []))->Q (.ref l) (upd H l (.lst zs))):=by
 intro pins s σ H xs us Q I r h;obtain⟨a,U,bw,rfl,hH,hU,hz,q⟩:=h;obtain⟨u,rfl,rx⟩:=r.one;cases rx;obtain⟨φ,hH,hφ⟩:=hH;obtain⟨o,es,ep,ys,ho,hx,hdat,hsys,hes,hnd,hp⟩:=hφ _ (I.hok _ _ hH).1;obtain⟨ek,hu⟩:=qH hp;have hlen:ys.length=bw.length:=by have:=congrArg il ek;simpa using this
 have hsz:es.size=ys.length:=by have:=congrArg il hes;simpa using this
 have hd0:Dk.oW s.heap a es ep:=⟨o,ho,hx,hdat⟩
 refine Dk.KJ (I.ok.hd hc) hsys hd0 (by lia) fun h' tk acc c' kk hS hacc=>?_;have aik:∀i,es[i]?=(ys[i]?).map fun(x:List Int×ae×aa)=>(⟨Ml x.1,.ref x.2.1,x.2.2⟩:oy):=fun i=>by rw[<- ka,hes,cK]
 have Qq:H s.heap.objs.size=none:=I.hok.fresh (bz _);have hal:acc.toList=ys.map fun x=>aa.ref x.2.1:=by
  apply vF;intro i;rw[cK,ka];cases e:acc[i]? with
  |some v =>
   obtain⟨x,hx',rfl⟩:=hacc.2 i v e;rw[aik]at hx';cases e2:ys[i]? with
   |none=>rw[e2]at hx';cases hx'
   |some y=>rw[e2]at hx';cases hx';rfl
  |none =>
   have:acc.size<=i:=by simpa using e
   rw[hacc.1,hsz]at this;rw[List.getElem?_eq_none this];rfl
 have hv:Vals (ys.map fun x=>V.ref x.2.1) acc.toList:=by rw[hal];exact Ck ys
 have kl:(ys.map fun x=>V.ref x.2.1).length=bw.length:=by simp[hlen]
 refine⟨.ref s.heap.objs.size,_,I.laid (t':=tk) kk (bz _) (show dW X.prog X.w _ h' _ (.lst (ys.map fun x=>V.ref x.2.1)) from⟨?_,acc.toList,c',hv,by simpa using hS⟩),rfl,q _ _ Qq kl fun i v e=>?_⟩
 ·rw[kl,eM];lia
 ·rw[cK]at e;cases e2:ys[i]? with
  |none=>rw[e2]at e;cases e
  |some y =>
   rw[e2]at e;have hg:(bw.map (·.1)).getD i []=y.1:=by rw[<- ek,f6,cK,e2];rfl
   rw[hg];exact⟨y.2.1,(dk e).symm,hu y (mv e2)⟩
noncomputable def tK:D->Rs D:=fun d=>match d with
 | .sy ks _=>if ks.length < 1000 then .ok (.lst (ks.map aj)) else .no
 |_=>.no
theorem Wo{f:aH->Rs D}{e:ah}{p pos:Pos}(hc:X.calm=true) (hm:X.mg "list"=none) (he:SE X B W e f) (hg:Gl X "list":=by rfl) (hst:bg [e] X.env=[(false,aS e X.env)]:=by rfl) :
  SE X B W (.Call (.Name "list" p) [e] [] pos) (fB f tK):=by
 refine PE.imp (Bf (Ia hc) hg hm PyProof.Rows.boot_list (eN he jJ hst) (by decide) (by decide) hst rfl) fun σ H Q fj=>?_;obtain⟨ρ,G,s,pp⟩:=fj;refine⟨ρ,G,s,?_⟩;unfold fB at pp;cases e1:f ρ with
 |no=>rw[e1]at pp;exact pp.elim
 |ex c n=>rw[e1]at pp;exact pp
 |ok d =>
  rw[e1]at pp;intro v H1 G1 x r;have pp':Post X.K W σ G H (tK d) Q:=pp;cases d with
  |sy ks ds =>
   unfold tK at pp';dsimp only at pp';by_cases hl:ks.length < 1000
   ·rw[if_pos hl]at pp';obtain⟨a,U,bw,rfl,h1,h2,h3,h4⟩:=rm.mp r;subst h3;refine⟨a,U,bw,rfl,(h1.mono x.gh).at,fun b ks z=>Same.cV x.gh (h2 b ks z),by simpa using hl,fun l zs Qq hz hv=>?_⟩;have y:=pC (xs:=zs) x.gh x.tp Qq;refine pp' _ _ _ (x.trans y) (bJ.mpr ⟨l,zs,rfl,.of aW,(rC (by simpa using hz) fun i v hv2=>?_).mono y.gg⟩);obtain⟨b,e1,e2⟩:=hv i v hv2;exact⟨b,e1,h2 b _ e2⟩
   ·rw[if_neg hl]at pp';exact pp'.elim
  |_=>exact pp'.elim
end
structure adI (K:ai)(x:Str)(st:bj)(f:ae)(fd:dq)(c P:ae)(q:Str):Prop where
 ex:∃(oc:aa) (od:Option ae) (kV doc pm:aa) (an:Option ae) (ct:aa) (osl:Array (Option aa)),
  fd=gf x x (dg st) (cB st) (aJ st) .none kV doc pm an (.ref c) ct/\K.lookup f=some ⟨oc,od,.func fd,osl⟩/\my K (.ref c) x=true
 kp:j0 K (.ref f)=true
 hd:iP K c P=true
 mem:(P,q)∈RX K
theorem Ib:∀{l:List (ae×Obj)}{b:ae}{q:Obj},l.lookup b=some q->(b,q)∈l
 | [],_,_,h=>by cases h
 | (c,r)::l,b,q,h=>by
  by_cases e:b=c
  ·subst e;rw[mS]at h;cases h;exact dC
  ·rw[i8,show(b == c)=false by simpa using e]at h;exact dP _ (Ib h)
theorem QG{K:ai}{c P:ae}(e:iP K c P=true):∃oc vs,K.lookup c=some oc/\oc.data=.fields vs/\(vs[11]?:Option aa)=some (.ref P):=by
 unfold iP at e;split at e
 ·rename_i vs _ hk;simp only[ir]at e;obtain⟨⟨⟨⟨⟨e1,_⟩,_⟩,_⟩,_⟩,_⟩:=e;split at e1
  ·rename_i P' h11;have:P'=P:=by simpa using e1
   subst this;exact⟨_,vs,hk,rfl,h11⟩
  ·cases e1
 ·cases e
theorem aai{K:ai}{x q:Str}{st:bj}{f c P:ae}{oc:aa}{od an:Option ae}{osl:Array (Option aa)}{kV doc pm ct:aa}(l:K.lookup f=some ⟨oc,od,.func (gf x x (dg st) (cB st) (aJ st) .none kV doc pm an (.ref c) ct),osl⟩)
  (cc:my K (.ref c) x=true) (k:j0 K (.ref f)=true) (h:iP K c P=true) (hb:Mr (gf x x (dg st) (cB st) (aJ st) .none kV doc pm an (.ref c) ct)=true) (hq:x++(".<locals>.<lambda>":Str)=q) :
  adI K x st f (gf x x (dg st) (cB st) (aJ st) .none kV doc pm an (.ref c) ct) c P q:=by
 refine⟨⟨oc,od,kV,doc,pm,an,ct,osl,rfl,l,cc⟩,k,h,?_⟩;obtain⟨o2,vs,h1,h2,h3⟩:=QG h;refine oi.mpr ⟨_,Ib l,?_⟩;dsimp only;rw[if_pos hb];show(match K.lookup c with|some oc=>_|none=>none)=_;rw[h1];dsimp only;rw[h2];dsimp only;rw[h3];dsimp only;rw[<- hq]
section
variable{P:aE}{w:az}{K:ai}{mg:Str->Option aa}{base:Heap}
theorem aaj{x q:Str}{st:bj}{f c T:ae}{fd:dq}{N ps:List Str}{k:Nat}{g:aH->Ou}(F:adI K x st f fd c T q)(hm:mg x=some (.ref f))(S:bM N ps (aJ st))
  (hbi:∀(kV doc pm:aa) (an:Option ae) (cdv ct:aa) (us:List aa),us.length=ps.length->bindArgs (gf x x (dg st) (cB st) (aJ st) .none kV doc pm an cdv ct) ⟨us,[]⟩=pure (ps.zip us))
  (hb:∀(A:aI) (outer:List Env) (s:af) (H:Hp) (E:XK) (B:Bs),lH k (A.deeper (mT x (aJ st) s.heap.objs.size f (.ref c))) ->
   sH (rQ (Bk P w K) P w K mg base N x (aJ st) f (.ref c) A outer s H E) (fun c n _ H'=>E (xW c n) none H') ->
   rA (rQ (Bk P w K) P w K mg base N x (aJ st) f (.ref c) A outer s H E) B (fun c n _ H'=>E (xW c n) none H') (cB st) g) :
  jj P w K mg base x (k + 1) ps.length (fun ds=>dY (g (aY N ds))):=by
 obtain⟨oc,od,kV,doc,pm,an,ct,osl,rfl,lk,hcd⟩:=F.ex;refine⟨f,_,ps,?_,hm,F.kp,.all (hbi kV doc pm an (.ref c) ct)⟩;refine aaM lk hcd S (fun vs H Q E h=>h.1) fun A outer s H vs Q E hr _ h=>?_;obtain⟨_,G,ds,e,r,h⟩:=h;dsimp only at h;exact⟨_,hb A outer s H E ⟨G,H,0⟩ hr (uf rB rfl),aY N ds,G,Gp e r,Gq (B:=⟨G,H,0⟩) h⟩
end
theorem afR{k:Nat}{A:aI}{env:Env}(hr:lH k A):(A.in1.deeper env).units + 8 < bX:=by have:=hr.un;show A.units + 1 + 3 + 8 < bX;lia
end Vl
namespace Vl
open PySem PySem.Spec L2 So Tb
noncomputable def afS(t:Int)(ks:List Int):List Int :=
 let r:=ks.getD 0 0;let c:=ks.getD 1 0
 if t=0 then [r,c] else if t=1 then [c,-r] else if t=2 then [-r,-c] else if t=3 then [-c,r] else if t=4 then [r,-c] else if t=5 then [-c,-r] else if t=6 then [-r,c] else [c,r]
noncomputable def turned(t:Int)(l:LL):LL:=cR (l.map (afS t))
end Vl
namespace Vl
open PySem PySem.Spec PySem.Calls PySem.W L2 So Tb
noncomputable abbrev c0(a:List Int):Int:=a.getD 0 0
noncomputable abbrev c1(a:List Int):Int:=a.getD 1 0
noncomputable def vG(a b:List Int):Prop:=c0 a < c0 b∨(c0 a=c0 b/\c1 a < c1 b)
theorem uI{a:List Int}(h:Pair a):a=[c0 a,c1 a]:=by obtain⟨x,y,rfl⟩:=h;rfl
theorem Wq{a b:List Int}(ha:Pair a)(hb:Pair b)(h0:c0 a=c0 b)(h1:c1 a=c1 b):a=b:=by rw[uI ha,uI hb,h0,h1]
theorem rK{a:List Int}(h:vG a a):False:=by unfold vG at h;lia
theorem KN{a b c:List Int}(h:vG a b)(k:vG b c):vG a c:=by unfold vG at *;lia
theorem zX{a b:List Int}(ha:Pair a)(hb:Pair b):jk a b=true↔vG a b:=by
 obtain⟨x,y,rfl⟩:=ha;obtain⟨z,w,rfl⟩:=hb;unfold vG;show _↔x < z∨(x=z/\y < w)
 simp only[jk];by_cases h:x=z
 ·subst h;by_cases k:y=w
  ·subst k;simp
  ·simp[k]
 ·simp[h]
structure gW (L:KL):Prop where
 pr:∀x∈L,Pair x
 pw:L.Pairwise vG
theorem gW.nd{L:KL}(h:gW L):L.Nodup:=h.pw.imp fun {a b} z e=>by subst e;exact rK z
theorem gW.le{L:KL}(h:gW L):L.Pairwise Rp:=by
 have:L.Pairwise fun a b=>Pair a/\Pair b/\vG a b:=by refine tN.imp_of_mem (fun {a b} ha hb z=>⟨h.pr a ha,h.pr b hb,z⟩) h.pw
 refine this.imp fun {a b} fj=>?_;obtain⟨pa,pb,z⟩:=fj;unfold Rp;cases e:jk b a with
 |false=>rfl
 |true=>exact(rK (KN z ((zX pb pa).mp e))).elim
theorem gW.of{L:KL}(pr:∀x∈L,Pair x)(nd:L.Nodup)(pw:L.Pairwise Rp):gW L:=by
 refine⟨pr,?_⟩;have:L.Pairwise fun a b=>a≠b/\Rp a b:=(List.pairwise_and_iff.mpr ⟨nd,pw⟩)
 refine tN.imp_of_mem (fun {a b} ha hb ⟨ne,z⟩=>?_) this;have pa:=pr a ha;have pb:=pr b hb;by_cases c:vG a b
 ·exact c
 ·exfalso;have nlt:¬vG b a:=fun w=>by have:=(zX pb pa).mpr w;unfold Rp at z;rw[z]at this;cases this
  unfold vG at c nlt;exact ne (Wq pa pb (by lia) (by lia))
theorem gW.sort{L:KL}(pr:∀x∈L,Pair x)(nd:L.Nodup):gW (cR L):=.of (fun x hx=>pr x (rF.mp hx)) ((gq L).nodup_iff.mpr nd) (uq L)
theorem gW.ext{L M:KL}(hL:gW L)(hM:gW M)(h:∀x,x∈L↔x∈M):L=M:=vm ((List.perm_ext_iff_of_nodup hL.nd hM.nd).mpr h) hL.le hM.le
theorem gW.filter{L:KL}(h:gW L)(t:List Int->Bool):gW (L.filter t):=⟨fun x hx=>h.pr x (f_.mp hx).1,h.pw.filter t⟩
theorem gW.afT{L:KL}(h:gW L)(p:List Int):gW (L.map fun x=>mi x p):=by
 refine⟨fun x hx=>by obtain⟨y,_,rfl⟩:=eQ.mp hx;exact uF _ _,?_⟩;refine List.pairwise_map.mpr (h.pw.imp fun {a b} z=>?_);unfold vG at *;show c0 a - c0 p < c0 b - c0 p∨(c0 a - c0 p=c0 b - c0 p/\c1 a - c1 p < c1 b - c1 p)
 lia
noncomputable def go(st c:List Int)(j:Nat):List Int:=[c0 c + j * c0 st,c1 c + j * c1 st]
theorem nC{st c:List Int}(h:Pair c):go st c 0=c:=by rw[uI h];simp[go,c0,c1]
theorem Ep(st c:List Int)(j:Nat):go st (ad c st) j=go st c (j + 1):=by
 show [c0 c + c0 st + j * c0 st,c1 c + c1 st + j * c1 st]=[c0 c + ((j + 1:Nat):Int) * c0 st,c1 c + ((j + 1:Nat):Int) * c1 st]
 have e:∀a:Int,((j + 1:Nat):Int) * a=a + j * a:=fun a=>by rw[Int.natCast_succ,Int.add_mul,Int.one_mul,Int.add_comm]
 rw[e,e,<- sQ,<- sQ]
theorem abk(st p h:List Int)(j:Nat):go st (ad p h) j=ad p (go st h j):=by
 show [c0 p + c0 h + j * c0 st,c1 p + c1 h + j * c1 st]=[c0 p + (c0 h + j * c0 st),c1 p + (c1 h + j * c1 st)]
 rw[sQ,sQ]
noncomputable def Up(st:List Int):Prop:=vG [0,0] st
theorem Wr{st c:List Int}(hs:Up st)(j:Nat):vG c (go st c (j + 1)):=by
 have hs':0 < c0 st∨(0=c0 st/\0 < c1 st):=hs;show c0 c < c0 c + ((j + 1:Nat):Int) * c0 st∨(c0 c=c0 c + ((j + 1:Nat):Int) * c0 st/\c1 c < c1 c + ((j + 1:Nat):Int) * c1 st)
 have hj:(0:Int) < ((j + 1:Nat):Int):=by lia
 generalize ((j + 1:Nat):Int)=J at hj ⊢;rcases hs' with h|⟨h1,h2⟩
 ·have:=Int.mul_pos hj h;left;lia
 ·have:=Int.mul_pos hj h2;exact .inr ⟨by rw[<- h1];simp,by lia⟩
theorem afU{st c x:List Int}(hs:Up st)(hx:Pair x)(h:vG c x)(j:Nat):vG c (go st x j):=by
 cases j with
 |zero=>rw[nC hx];exact h
 |succ j=>exact KN h (Wr hs j)
noncomputable def Cm(S:KL)(st c:List Int)(n:Nat):Prop:=(∀j,j < n->go st c j∈S)/\go st c n∉S
noncomputable def tL(S:KL)(st:List Int)(kvs:List (List Int×D)):Prop:=∀x,(x∈S->∃n:Nat,bT kvs x=some (.int n)/\Cm S st x n)/\(x∉S->bT kvs x=none)
theorem Er(kvs:List (List Int×D))(k x:List Int)(d:D):bT (ju kvs k d) x=if x=k then some d else bT kvs x:=by
 unfold ju;by_cases h:(bT kvs k).isSome=true
 ·rw[if_pos h];by_cases e:x=k
  ·subst e;rw[if_pos rfl]
   induction kvs with
   |nil=>cases h
   |cons p kvs ih =>
    by_cases c:p.1=x
    ·simp[bT,f9,c]
    ·have h':(bT kvs x).isSome=true:=by simpa[bT,f9,c] using h
     have:=ih h';simpa[bT,f9,c] using this
  ·rw[if_neg e];clear h
   induction kvs with
   |nil=>rfl
   |cons p kvs ih =>
    by_cases c:p.1=k
    ·have:¬(k=x):=fun z=>e z.symm;have c':¬(p.1=x):=fun z=>this (c▸z);simpa[bT,f9,c,this,c'] using ih
    ·by_cases c':p.1=x
     ·have c2:(if p.1=k then (p.1,d) else p)=p:=if_neg c;show bT ((if p.1=k then (p.1,d) else p)::kvs.map fun p=>if p.1=k then (p.1,d) else p) x=_;rw[c2];simp[bT,f9,c']
     ·simpa[bT,f9,c,c'] using ih
 ·rw[if_neg h];have hn:bT kvs k=none:=by cases z:bT kvs k <;> simp_all
  by_cases e:x=k
  ·subst e;rw[if_pos rfl];unfold bT at hn ⊢;rw[List.find?_append];cases z:kvs.find? fun p=>decide (p.1=x) with
   |some p=>rw[z]at hn;cases hn
   |none=>simp
  ·rw[if_neg e];unfold bT;rw[List.find?_append];cases z:kvs.find? fun p=>decide (p.1=x) with
   |some p=>simp
   |none=>simp[b_ e,show ¬k=x from fun w=>e w.symm]
theorem Ws{S:KL}{st c:List Int}{kvs:List (List Int×D)}(hs:Up st)(hc:Pair c)(pr:∀x∈S,Pair x)(lt:∀x∈S,vG c x)(h:tL S st kvs) :
  ∃n:Nat,(bT kvs (ad c st)).getD (.int 0)=.int n/\tL (c::S) st (ju kvs c (.int (n + 1))):=by
 have hcS:c∉S:=fun z=>rK (lt c z);have key:∃n:Nat,(bT kvs (ad c st)).getD (.int 0)=.int n/\Cm (c::S) st c (n + 1):=by
  by_cases hy:ad c st∈S
  ·obtain⟨n,e,r1,r2⟩:=(h (ad c st)).1 hy;refine⟨n,by rw[e];rfl,fun j hj=>?_,?_⟩
   ·cases j with
    |zero=>rw[nC hc];exact dC
    |succ j=>rw[<- Ep];exact dP _ (r1 j (by lia))
   ·intro z;rcases bP.mp z with z|z
    ·have:=Wr (c:=c) hs n;rw[z]at this;exact rK this
    ·rw[<- Ep]at z;exact r2 z
  ·refine⟨0,by rw[(h (ad c st)).2 hy];rfl,fun j hj=>?_,?_⟩
   ·obtain rfl:j=0:=by lia
    rw[nC hc];exact dC
   ·intro z;rcases bP.mp z with z|z
    ·have:=Wr (c:=c) hs 0;rw[z]at this;exact rK this
    ·rw[<- Ep,nC (Ek _ _)]at z;exact hy z
 obtain⟨n,e,r⟩:=key;refine⟨n,e,fun x=>⟨fun hx=>?_,fun hx=>?_⟩⟩
 ·rw[Er];by_cases ex:x=c
  ·subst ex;rw[if_pos rfl];exact⟨n + 1,by simp,r⟩
  ·rw[if_neg ex];have hxS:=(bP.mp hx).resolve_left ex;obtain⟨m,e',r1,r2⟩:=(h x).1 hxS;refine⟨m,e',fun j hj=>dP _ (r1 j hj),fun z=>?_⟩;rcases bP.mp z with z|z
   ·have:=afU hs (pr x hxS) (lt x hxS) m;rw[z]at this;exact rK this
   ·exact r2 z
 ·rw[Er,if_neg (fun z:x=c=>hx (by rw[z];exact dC))];exact(h x).2 fun z=>hx (dP _ z)
theorem adJ{O:KL}{st:List Int}(hO:∀x∈O,Pair x)(hs:Up st){len:List Int->Nat}(hl:∀x∈O,Cm O st x (len x)):∀(k:Nat) (t:List Int),t∈O->(O.filter fun x=>decide (c0 x < c0 t∨(c0 x=c0 t/\c1 x < c1 t))).length=k->∃h∈O,mi h st∉O/\∃j,j < len h/\go st h j=t:=by
 intro k
 induction k using Nat.strongRecOn with
 |ind k ih =>
  intro t ht hk;have pos:∀x∈O,0 < len x:=fun x hx=>u6 fun z=>(hl x hx).2 (by rw[z,nC (hO x hx)];exact hx);by_cases c:mi t st∈O
  ·have hlt:vG (mi t st) t:=by
    have hs':0 < c0 st∨(0=c0 st/\0 < c1 st):=hs;show c0 t - c0 st < c0 t∨(c0 t - c0 st=c0 t/\c1 t - c1 st < c1 t)
    lia
   have less:(O.filter fun x=>decide (c0 x < c0 (mi t st)∨(c0 x=c0 (mi t st)/\c1 x < c1 (mi t st)))).length < k:=by
    rw[<- hk];have sub:(O.filter fun x=>decide (c0 x < c0 (mi t st)∨(c0 x=c0 (mi t st)/\c1 x < c1 (mi t st))))=(O.filter fun x=>decide (c0 x < c0 t∨(c0 x=c0 t/\c1 x < c1 t))).filter fun x=>decide (c0 x < c0 (mi t st)∨(c0 x=c0 (mi t st)/\c1 x < c1 (mi t st))):=by rw[List.filter_filter];refine List.filter_congr fun x _=>?_;rw[Bool.eq_iff_iff];simp only[ir,decide_eq_true_eq];refine⟨fun z=>⟨z,?_⟩,fun z=>z.1⟩;have:vG x t:=KN (show vG x (mi t st) from z) hlt;exact this
    rw[sub];refine List.length_filter_lt_length_iff_exists.mpr ⟨mi t st,f_.mpr ⟨c,?_⟩,?_⟩
    ·exact decide_eq_true (show vG (mi t st) t from hlt)
    ·simp
   obtain⟨h,hh,hm,j,hj,e⟩:=ih _ less (mi t st) c rfl;have e2:go st h (j + 1)=t:=by
    have h0:c0 h + j * c0 st=c0 t - c0 st:=congrArg c0 e;have h1:c1 h + j * c1 st=c1 t - c1 st:=congrArg c1 e;rw[uI (hO t ht)];show [c0 h + ((j + 1:Nat):Int) * c0 st,c1 h + ((j + 1:Nat):Int) * c1 st]=_;have e:∀a:Int,((j + 1:Nat):Int) * a=j * a + a:=fun a=>by rw[Int.natCast_succ,Int.add_mul,Int.one_mul]
    rw[e,e];generalize (j:Int) * c0 st=A at *;generalize (j:Int) * c1 st=B at *;congr 1
    ·lia
    ·congr 1;lia
   refine⟨h,hh,hm,j + 1,?_,e2⟩;rcases nz (j + 1) (len h) with z|z
   ·exact z
   ·have:j + 1=len h:=by lia
    exact((hl h hh).2 (by rw[<- this,e2];exact ht)).elim
  ·exact⟨t,ht,c,0,pos t ht,nC (hO t ht)⟩
theorem Wt{A O:KL}{st:List Int}(hO:∀x∈O,Pair x)(hs:Up st){len:List Int->Nat}(hl:∀x∈O,Cm O st x (len x))(p:List Int) :
  (∀h∈O,mi h st∉O->∀j,j < len h->go st (ad p h) j∈A)↔∀t∈O,ad p t∈A:=by
 constructor
 ·intro H t ht;obtain⟨h,hh,hm,j,hj,e⟩:=adJ hO hs hl _ t ht rfl;rw[<- e,<- abk];exact H h hh hm j hj
 ·intro H h hh hm j hj;rw[abk];exact H _ ((hl h hh).1 j hj)
theorem adK{A:KL}{st x:List Int}{kvs:List (List Int×D)}{n:Nat}(hn:0 < n)(hx:Pair x)(h:tL A st kvs):∃m:Nat,(bT kvs x).getD (.int 0)=.int m/\(n<=m↔∀j,j < n->go st x j∈A):=by
 by_cases hA:x∈A
 ·obtain⟨m,e,r1,r2⟩:=(h x).1 hA;refine⟨m,by rw[e];rfl,fun hle j hj=>r1 j (by lia),fun H=>?_⟩;rcases nz m n with z|z
  ·exact(r2 (H m z)).elim
  ·exact z
 ·refine⟨0,by rw[(h x).2 hA];rfl,fun hle=>by lia,fun H=>?_⟩;have:=H 0 hn;rw[nC hx]at this;exact(hA this).elim
end Vl
namespace Vl
open PySem PySem.Spec PySem.Calls PySem.W L2
theorem afV{K:ai}{f c P:ae}{oc:aa}{od an:Option ae}{sl:Array (Option aa)}{x:Str}{st:bj}{kV doc pm ct:aa}(a:cf K bu x=some (some (.ref f)))(b:K.lookup f=some ⟨oc,od,.func (gf x x (dg st) (cB st) (aJ st) .none kV doc pm an (.ref c) ct),sl⟩)(e:iP K c P=true):∃c,iP K c P=true:=⟨c,e⟩
end Vl
namespace L2
open PySem PySem.Spec PyProof.Rows Vl
section
variable{X:Cx}{tg:ah}
end
end L2
namespace Vl
open PySem PySem.Spec L2 So Tb
section
variable{X:Cx}{B:Bs}{W:Wi}{tg:ah}{K:ai}
end
end Vl
namespace Vl
open PySem PySem.Spec PySem.Calls PySem.W L2 So
theorem Cp{α:Type}{h:Tg}{g:aH->Ou}(F:α->D)(P:List α->aH->Prop){L0:List α}
  (hs:∀x done ρ,x∈L0->done.length < L0.length->P done ρ->∃ρ1 ρ2,h (F x) ρ=some ρ1/\g ρ1=.nx ρ2/\P (done++[x]) ρ2) :
  ∀(L done:List α) (ρ:aH),(∀x∈L,x∈L0)->done.length + L.length<=L0.length->P done ρ->∃ρ',fU h g (L.map F) ρ=.nx ρ'/\P (done++L) ρ'
 | [],done,ρ,_,_,p=>⟨ρ,rfl,by rw[i4];exact p⟩
 |x::L,done,ρ,hx,hl,p=>by rw[cq]at hl;obtain⟨ρ1,ρ2,e1,e2,p2⟩:=hs x done ρ (hx x (.head _)) (by lia) p;obtain⟨ρ',e,p'⟩:=Cp F P hs L (done++[x]) ρ2 (fun y hy=>hx y (.tail _ hy)) (by rw[dE,tz];lia) p2;refine⟨ρ',?_,by rw[j9]at p';exact p'⟩;simp only[cb,fU,e1,e2];exact e
theorem oX{α:Type}{h:Tg}{g:aH->Ou}(F:α->D)(P:List α->aH->Prop){L:List α}{ρ:aH}(p:P [] ρ)
  (hs:∀x done ρ,x∈L->done.length < L.length->P done ρ->∃ρ1 ρ2,h (F x) ρ=some ρ1/\g ρ1=.nx ρ2/\P (done++[x]) ρ2):∃ρ',fU h g (L.map F) ρ=.nx ρ'/\P L ρ':=by
 obtain⟨ρ',e,p'⟩:=Cp F P hs L [] ρ (fun _ z=>z) (by rw[eI,hZ];exact bz _) p;exact⟨ρ',e,by rw[pS]at p';exact p'⟩
structure Km (kvs:List (List Int×D))(n:Nat)(M:List Int->Prop):Prop where
 gn:GN kvs
 le:kvs.length<=n
 iff:∀k,k∈kvs.map (·.1)↔M k
theorem Km.nil:Km [] 0 fun _=>False:=⟨.nil,bz _,fun k=>by simp⟩
theorem Km.put{kvs:List (List Int×D)}{n:Nat}{M M':List Int->Prop}(h:Km kvs n M)(x y:Int)(d:D)(hM:∀k,M' k↔k=[x,y]∨M k):Km (ju kvs [x,y] d) (n + 1) M' :=
 ⟨h.gn.put x y d,et (rH _ _ _) (Nat.add_le_add_right h.le 1),fun k=>by rw[uD,hM,h.iff]⟩
theorem Km.mono{kvs:List (List Int×D)}{n n':Nat}{M M':List Int->Prop}(h:Km kvs n M)(hn:n<=n')(hM:∀k,M' k↔M k):Km kvs n' M':=⟨h.gn,et h.le hn,fun k=>by rw[hM,h.iff]⟩
theorem aak{kvs:List (List Int×D)}{ks:List Int}:vC false (aj ks) (cZ kvs)=.ok (.bl (decide (ks∈kvs.map (·.1)))):=by unfold vC;dsimp only;rw[iU];dsimp only;rw[uG];simp only[cn,if_false];rw[mK]
theorem Wu{bI:KL}(hl:bI.length < 4900)(hp:∀ks∈bI,Pair ks):vp [.lst (bI.map aj)]=.ok (.lst ((cR bI).map aj)):=by simp only[vp,BW];rw[if_pos ⟨fun ks hk=>by obtain⟨x,y,rfl⟩:=hp ks hk;simp,hl⟩]
theorem KQ{α:Type}(xs:List α)(f:α->Bool):Du [.lst (xs.map fun x=>.bl (f x))]=.ok (.bl (xs.all f)):=by
 have h:∀xs:List α,ug (xs.map fun x=>D.bl (f x))=some (xs.map f):=fun xs=>by
  induction xs with
  |nil=>rfl
  |cons x xs ih=>simp only[cb,ug,ih];rfl
 simp only[Du,h];have:(xs.map f).all id=xs.all f:=by rw[t9];rfl
 rw[this]
theorem afW{ρ:aH}{i:Nat}{acc:KL}{x:List Int}{f:aH->Rs D}(hi:ρ[i]?=some (.ow (acc.map aj)))(hf:f ρ=.ok (aj x))(hl:acc.length < 1000000):JV i f ρ=.nx (ρ.set i (.ow (acc.map aj++[x].map aj))):=by unfold JV;rw[hi];show oR (f ρ) ρ _=_;rw[hf];show(if (acc.map aj).length < 1000000 then Ou.nx _ else .no)=_;rw[if_pos (by rw[cx];exact hl)];rfl
end Vl
namespace Vl
open PySem PySem.Spec PySem.Calls PySem.W L2
noncomputable def scB(N P:List Str)(sc:Scope):Bool:=decide (sc.kind=.function) && !sc.isCoroutine && !sc.isGenerator && decide N.Nodup && decide (N.take P.length=P) && P.all (fun x=>sc.names.lookup x == some .local || sc.names.lookup x == some .cell) && sc.names.all (fun y=>y.2 != .free)
theorem scp{N P:List Str}{sc:Scope}(h:scB N P sc=true):bM N P sc:=by unfold scB at h;simp only[ir,decide_eq_true_eq,kz,bne_iff_ne,kA,beq_iff_eq,ne_eq,Bool.not_eq_true']at h;obtain⟨⟨⟨⟨⟨⟨h1,h2⟩,h3⟩,h4⟩,h5⟩,h6⟩,h7⟩:=h;exact⟨h1,h2,h3,h4,h5,h6,h7⟩
section
variable{P:aE}{w:az}{K:cS}{mg:Str->Option aa}{base:Heap}{x:Str}{st:bj}{N ps:List Str}{k n:Nat}{g:aH->Ou}
noncomputable abbrev qg(K:cS)(mg:Str->Option aa)(x:Str)(st:bj):Prop:=∃f fd,Fun K x x st f fd/\mg x=some (.ref f)
noncomputable def Dn(K:cS)(x:Str)(st:bj):Prop:=∃(f:ae) (oc:aa) (od:Option ae) (sl:Array (Option aa)) (kV dc pm:aa) (an:Option ae) (cd ct:aa),
 cf K bu x=some (some (.ref f))/\K.lookup f=some ⟨oc,od,.func (fnOf x x (dg st) (cB st) (aJ st) .none kV dc pm an cd ct),sl⟩/\codeIn K cd x=true/\keepIn K (.ref f)=true
theorem Dn.ent{h:Heap}(a:Dn K x st)(X:K.In h)(G:h.Ns bu mg):qg K mg x st:=by obtain⟨f,oc,od,sl,kV,dc,pm,an,cd,ct,a,l,d,k⟩:=a;exact⟨f,_,RT (st:=st) l d k,gy X G a⟩
noncomputable abbrev Hb(P:aE)(w:az)(K:cS)(mg:Str->Option aa)(base:Heap)(N:List Str)(x:Str)(st:bj)(k:Nat)(g:aH->Ou):Prop :=
 ∀(f:ae) (cdv:aa) (A:aI) (outer:List Env) (s:af) (H:Hp) (E:XK) (B:Bs),lH k (A.deeper (mT x (aJ st) s.heap.objs.size f cdv)) ->
  sH (rQ (Bk P w K) P w K mg base N x (aJ st) f cdv A outer s H E) (fun c n _ H'=>E (xW c n) none H') ->
  rA (rQ (Bk P w K) P w K mg base N x (aJ st) f cdv A outer s H E) B (fun c n _ H'=>E (xW c n) none H') (cB st) g
noncomputable abbrev Bi(x:Str)(st:bj)(ps:List Str):Prop:=∀(kV doc pm:aa) (an:Option ae) (cdv ct:aa) (us:List aa),us.length=ps.length->bindArgs (fnOf x x (dg st) (cB st) (aJ st) .none kV doc pm an cdv ct) ⟨us,[]⟩=pure (ps.zip us)
theorem gB(F:qg K mg x st)(S:bM N ps (aJ st))(hb:Hb P w K mg base N x st k g)(hbi:Bi x st ps:=by intro _ _ _ _ _ _ us hl;rcases us with _|⟨_,_|⟨_,_|⟨_,_|⟨_,_|⟨_,us⟩⟩⟩⟩⟩ <;> first|rfl|(simp only[cq,eI]at hl;lia)) :
  jj P w K mg base x (k + 1) ps.length (fun ds=>dY (g (aY N ds))):=let ⟨f,_,F,hm⟩:=F;acI F hm S hbi (hb f)
end
theorem Dn.mk{K:cS}{x:Str}{st:bj}{f:ae}{oc:aa}{od:Option ae}{sl:Array (Option aa)}{kV dc pm:aa}{an:Option ae}{cd ct:aa}(a:cf K bu x=some (some (.ref f)))(b:K.lookup f=some ⟨oc,od,.func (fnOf x x (dg st) (cB st) (aJ st) .none kV dc pm an cd ct),sl⟩)(c:codeIn K cd x=true)(d:keepIn K (.ref f)=true):Dn K x st:=⟨f,oc,od,sl,kV,dc,pm,an,cd,ct,a,b,c,d⟩
end Vl
namespace Vl
open PySem PySem.Spec L2 So Tb
section
variable{X:Cx}{B:Bs}{W:Wi}{K:ai}
end
end Vl
namespace Vl
open PySem PySem.Spec PySem.Calls PySem.W L2
section
variable{prog:aE}{w:az}{A:aI}{E:aa->af->Prop}{h:Heap}{g:Array kP}{d:Drawn}{t:Nat}{os:OsState}
variable{nm q:Str}{C N:ae}{bs bm bmB:List aa}{hdct:Bool}{sn:List Str}{sub:List aa}{ab:Bool}{col:Option Bool}{dd:Option ae}{k0 k1 k2 k3 k5:Option aa}{Bb Bn newId nid initId inN:String}{bmN:List aa}
noncomputable def aio(C M:ae):List aa:=[.ref C,.ref M,.type "ValueError",.type "Exception",.type "BaseException",.type "object"]
structure Xik (K:cS)(C M:ae)(nm:Str):Prop where
 cls:∃cd,clsIn K C=some cd/\cd.mro=aio C M/\cd.hasDict=true
 ob:mroIn K C (.type "object")=some true
 be:mroIn K C (.type "BaseException")=some true
 sa:lh K (.ref C) "__setattr__"=some (some (.builtin "object.__setattr__"))
 no:lh K (.ref C) nm=some none
 ga:lh K (.ref C) "__getattribute__"=some (some (.builtin "BaseException.__getattribute__"))
 gh:lh K (.ref C) "__getattr__"=some none
end
section
variable{X:Cx}{pins:List (ae×Obj)}{σ:St}{H:Hp}{s:af}
end
section
variable{X:Cx}{pins:List (ae×Obj)}{σ:St}{H:Hp}{s:af}
end
section
variable{P:aE}{w:az}{K:ai}{mg:Str->Option aa}{base:Heap}
end
section
variable{X:Cx}{B:Bs}{W:Wi}{pins:List (ae×Obj)}{σ:St}{H:Hp}{s:af}{C f:ae}{fd:dq}{a:Str}{newId:String}
end
section
variable{M:Model}{A:aI}{E:aa->af->Prop}{env:Env}
variable{nm q:Str}{C N:ae}{bs bm:List aa}{hdct:Bool}{sn:List Str}{sub:List aa}{ab:Bool}{col:Option Bool}{dd:Option ae}{k0 k1 k2 k3 k5:Option aa}{newId:String}
end
section
variable{X:Cx}{B:Bs}{W:Wi}{C f:ae}{fd:dq}{a:Str}
end
section
variable{X:Cx}{B:Bs}{W:Wi}
end
section
variable{P:aE}{w:az}{K:cS}{mg:Str->Option aa}{base:Heap}{x:Str}{st:bj}{N ps:List Str}{k n:Nat}{g:aH->Ou}
end
end Vl
namespace Vl
open PySem PySem.Spec L2
section
variable{X:Cx}{B:Bs}{W:Wi}
end
end Vl
namespace Vl
open PySem PySem.Spec PySem.Calls PySem.W L2
structure ajl (K:cS)(x:Str)(st:bj)(f:ae)(fd:dq)(ps:List Str)(b:Bool)(kn:Str):Prop extends ahU K x st f fd ps where
 bd:Binds K fd ps [.bool b]
 bk:∀(s:af) (us:List aa) (z:aa),K.In s.heap->us.length + 1=ps.length->ki s fd ⟨us,[(kn,z)]⟩ (ps.zip (us++[z]))
section
variable{X:Cx}{B:Bs}{W:Wi}
end
end Vl
namespace L2
open PySem PySem.Spec PyProof.Rows AutoSeq1
section
variable{X:Cx}
end
end L2
namespace Vl
open PySem PySem.Spec L2
section
variable{X:Cx}{B:Bs}{W:Wi}{K:ai}{G:Hp}
end
end Vl
namespace Vl
open PySem PySem.Spec PySem.Calls PySem.W L2
section
variable{X:Cx}{B:Bs}{W:Wi}
end
section
variable{X:Cx}{B:Bs}{W:Wi}
end
section
variable{P:aE}{w:az}{K:ai}{mg:Str->Option aa}{base:Heap}
end
section
variable{X:Cx}{B:Bs}{W:Wi}
end
section
variable{X:Cx}{B:Bs}{W:Wi}
end
section
variable{P:aE}{w:az}{K:ai}{mg:Str->Option aa}{base:Heap}
end
section
variable{X:Cx}{B:Bs}{W:Wi}
end
section
variable{X:Cx}{K:ai}{B:Bs}{W:Wi}{σ:St}{G H:Hp}{ρ:aH}{a b:ah}{pos:Pos}{fa fb:aH->Rs D}
end
section
variable{X:Cx}{B:Bs}{W:Wi}
end
section
variable{X:Cx}{B:Bs}{W:Wi}
end
section
variable{X:Cx}{B:Bs}{W:Wi}
end
section
variable{X:Cx}{K:ai}{B:Bs}{W:Wi}
end
section
variable{X:Cx}{B:Bs}{W:Wi}
end
section
variable{X:Cx}{B:Bs}
end
section
variable{X:Cx}{K:ai}{B:Bs}{W:Wi}{a b:ah}{pos:Pos}{fa fb:aH->Rs D}
end
end Vl
namespace Vl
open PySem PySem.Spec L2
section
variable{X:Cx}{B:Bs}{W:Wi}{K:ai}
variable{o e:ah}{apos cpos:Pos}{fo fe:aH->Rs D}
end
end Vl
namespace L2
open PySem PySem.Spec PyProof.Rows
section
variable{X:Cx}{tg:ah}
end
end L2
namespace Vl
open PySem PySem.Spec PySem.Calls PySem.W L2
section
variable{X:Cx}{B:Bs}{W:Wi}{K:ai}{σ:St}{G H:Hp}{ρ:aH}{De:Ends}
end
section
variable{P:aE}{w:az}{K:cS}{mg:Str->Option aa}{base:Heap}{x:Str}{st:bj}{N ps:List Str}{m:Nat}
theorem Ie{g:(List D->Rs D)->aH->Ou}{v:Nat->List D->Rs D}(k0:Nat)(F:qg K mg x st)(S:bM N ps (aJ st))(hb:∀k vr,k0<=k->jj P w K mg base x k ps.length vr->Hb P w K mg base N x st k (g vr))
  (hbi:Bi x st ps:=by intro _ _ _ _ _ _ us hl;rcases us with _|⟨_,_|⟨_,_|⟨_,_|⟨_,_|⟨_,us⟩⟩⟩⟩⟩ <;> first|rfl|(simp only[cq,eI]at hl;lia)) (h0:v 0=fun _=>.no:=by rfl) (hs:∀n,v (n + 1)=fun ds=>dY (g (v n) (aY N ds)):=by intro _;rfl) :
  ∀n,jj P w K mg base x (k0 + 1 + n) ps.length (v n)
 | 0=>by rw[h0];exact gB (k:=k0) (g:=fun _=>.no) F S (fun _ _ _ _ _ _ _ _ _ _=>PX) hbi
 |n + 1=>by rw[hs];exact gB (k:=k0 + 1 + n) F S (hb _ _ (by lia) (Ie k0 F S hb hbi h0 hs n)) hbi
end
section
variable{X:Cx}{B:Bs}{W:Wi}{K:ai}
end
end Vl
namespace Vl
open PySem PySem.Spec PySem.Calls PySem.W L2 So Tb
section
variable{X:Cx}{B:Bs}{W:Wi}{K:ai}
end
end Vl
namespace Vl
open PySem PySem.Spec PySem.Calls PySem.W L2
section
variable{P:aE}{w:az}{K:cS}{mg:Str->Option aa}{base:Heap}{x:Str}{st:bj}{N ps:List Str}{k:Nat}
end
section
variable{X:Cx}{B:Bs}{W:Wi}
end
theorem lQ{N P:List Str}{sc:Scope}(h:scB N P sc=true:=by decide+kernel):bM N P sc:=scp h
section
variable{X:Cx}{B:Bs}
end
section
variable{P:aE}{w:az}{K:cS}{mg:Str->Option aa}{base:Heap}
end
end Vl
namespace L2
open PySem PySem.Spec PyProof.Rows Vl
structure ajm (P:aE)(w:az)(K:ai)(mg:Str->Option aa)(base:Heap)(k:Nat)(f:ae)(fd:dq)(ps:List Str)(sp:List V->Hp->VK->Prop):Prop where
 len:∀vs H Q,sp vs H Q->vs.length=ps.length
 run:∀(A:aI) (ea:ae) (outer:List Env) (s:af) (H:Hp) (args:Args) (us:List aa) (vs:List V) (Q:VK),lH k A->RL P w K mg base A outer s H->ki s fd args (ps.zip us)->Vals vs us->sp vs H Q ->
  fq (ax P w) (A.mark (some (.ref ea))) (.call (.ref f) args) (CR (fun _ _ _ _ _ _=>False) outer P w H s Q fun _ _ _=>False) s
end L2
namespace Vl
open PySem PySem.Spec PySem.Calls PySem.W L2
section
variable{P:aE}{w:az}{K:cS}{mg:Str->Option aa}{base:Heap}{x:Str}{st:bj}{N ps:List Str}{k:Nat}{g:aH->Ou}
end
section
variable{X:Cx}{B:Bs}{ea:ae}
end
section
variable{X:Cx}{B:Bs}{W:Wi}{G H:Hp}
theorem pinned{P:aE}{w:az}{H':Hp}{h:Heap}{d:ae}{U:ae->List Int->Prop}{bw:List (List Int×V)}(z:dW P w H' h d (.ext (jZ U d bw))):∃o,dW P w H' h d (.ext fun h=>h.get? d=some o/\jZ U d bw h):=by obtain⟨hd,⟨o,ho⟩,hs⟩:=z;exact⟨o,⟨ho,hd⟩,⟨o,ho⟩,fun h1 h2 z k=>⟨k _ z.1,hs _ _ z.2 k⟩⟩
end
end Vl
namespace Vl
open PySem PySem.Spec PySem.Calls PySem.W L2 Dk
section
variable{prog:aE}{w:az}{A:aI}{E:aa->af->Prop}{s:af}
end
section
variable{X:Cx}{B:Bs}{W:Wi}
variable{a b:ah}{pos:Pos}{fa fb:aH->Rs D}
end
end Vl
namespace Vl
open PySem PySem.Spec PySem.W L2
section
variable{X:Cx}{B:Bs}{W:Wi}{σ:L2.St}{H:Hp}{K:ai}
end
end Vl
namespace Vl
open PySem PySem.Spec PySem.Calls PySem.W L2
section
variable{prog:aE}{w:az}{A:aI}{R:Result->af->Prop}{I:ae}{fp wr:List ae}{n:Nat}{P:Nat->aa->Prop}{St:Nat->Heap->Prop}{dv:aa}
end
section
variable{X:Cx}{B:Bs}{W:Wi}{pins:List (ae×Obj)}{σ:St}
end
noncomputable abbrev Mp:=List (List Int×List D)
noncomputable def wV(ρ:aH):Prop:=∀(i:Nat) (z:Sl),ρ[i]?=some z->z.own=false
theorem wV.set{ρ:aH}(h:wV ρ){j:Nat}{y:Sl}(hy:y.own=false):wV (ρ.set j y):=fun i z q=>by
 by_cases e:j=i
 ·subst e;have hl:j < ρ.length:=by have:=(df.mp q).1;simpa using this
  rw[di hl]at q;cases q;exact hy
 ·rw[cv e]at q;exact h i z q
theorem Wv{ρ:aH}(h:(ρ.all fun z=>!z.own)=true):wV ρ:=fun i z q=>by have:=kz.mp h z (mv q);simpa using this
inductive LR (K:cS) (B:Bs) (G H:Hp):Mp->List (List Int×V)->Prop
 |nil:LR K B G H [] []
 |cons {k:List Int}{ds:List D}{l:ae}{vs:List V}{m:Mp}{bw:List (List Int×V)}:H l=some (.lst vs)->G l=none->B.2 l=none->bF K G ds vs->(∀p∈bw,p.2≠.ref l)->LR K B G H m bw->LR K B G H ((k,ds)::m) ((k,.ref l)::bw)
noncomputable def KR(m:Mp)(ks:List Int):Option (List D):=match m with
 | []=>none
 | (k,ds)::m=>if k=ks then some ds else KR m ks
noncomputable def KY(m:Mp)(ks:List Int)(d:D):Mp:=match m with
 | []=>[]
 | (k,ds)::m=>if k=ks then (k,ds++[d])::m else (k,ds)::KY m ks d
section
variable{K:cS}{B:Bs}{G H G' H':Hp}{m:Mp}{bw:List (List Int×V)}{σ:St}{ρ:aH}
theorem LR.ext(h:LR K B G H m bw)(e:Ext G H G' H'):LR K B G' H' m bw:=by
 induction h with
 |nil=>exact .nil
 |cons h1 h2 h3 h4 h5 _ ih=>exact .cons (e.hh _ _ h1) (e.nw _ _ h1 h2) h3 (h4.mono e.gg) h5 ih
theorem LR.frame(h:LR K B G H m bw){a:ae}{o:HO}(ha:∀p∈bw,p.2≠.ref a):LR K B G (upd H a o) m bw:=by
 induction h with
 |nil=>exact .nil
 |cons h1 h2 h3 h4 h5 _ ih=>exact .cons (by rw[aK (fun z=>ha _ (dC ..) (by rw[z]))];exact h1) h2 h3 h4 h5 (ih fun p hp=>ha p (dP _ hp))
theorem LR.at(h:LR K B G H m bw):∀p∈bw,∃l vs,p.2=.ref l/\H l=some (.lst vs):=by
 induction h with
 |nil=>exact fun p hp=>nomatch hp
 |cons h1 h2 h3 h4 h5 _ ih =>
  intro p hp;rcases bP.mp hp with rfl|hp
  ·exact⟨_,_,rfl,h1⟩
  ·exact ih p hp
theorem LR.off(h:LR K B G H m bw){a:ae}(ha:∀vs,H a≠some (.lst vs)):∀p∈bw,p.2≠.ref a:=fun p hp e=>by obtain⟨l,vs,e1,e2⟩:=h.at p hp;rw[e1]at e;cases e;exact ha vs e2
theorem LR.len(h:LR K B G H m bw):bw.length=m.length:=by
 induction h with
 |nil=>rfl
 |cons _ _ _ _ _ _ ih=>simp[ih]
theorem LR.app(h:LR K B G H m bw){k:List Int}{ds:List D}{l:ae}{vs:List V}(h1:H l=some (.lst vs))(h2:G l=none)(h3:B.2 l=none)(h4:bF K G ds vs)(h5:∀p∈bw,p.2≠.ref l):LR K B G H (m++[(k,ds)]) (bw++[(k,.ref l)]):=by
 induction h with
 |nil=>exact .cons h1 h2 h3 h4 (fun p hp=>nomatch hp) .nil
 | @cons k0 ds0 l0 vs0 m0 Kc g1 g2 g3 g4 g5 _ ih =>
  refine .cons g1 g2 g3 g4 (fun p hp=>?_) (ih fun p hp=>h5 p (dP _ hp));rcases dQ.mp hp with hp|hp
  ·exact g5 p hp
  ·rw[d_.mp hp];intro z;exact h5 _ (dC ..) (by rw[<- z])
theorem LR.new(h:LR K B G H m bw){ks:List Int}(hk:ks∉m.map (·.1)):mY bw ks=none:=by
 induction h with
 |nil=>rfl
 |cons _ _ _ _ _ _ ih =>
  simp only[cb,bP,not_or]at hk;unfold mY at ih ⊢;rw[xc (by simpa using fun z=>hk.1 z.symm)];exact ih hk.2
theorem LR.get(h:LR K B G H m bw){ks:List Int}{ds:List D}(e:KR m ks=some ds):∃l vs,mY bw ks=some (.ref l)/\H l=some (.lst vs)/\G l=none/\B.2 l=none/\bF K G ds vs/\(∃p∈bw,p.2=.ref l) /\
  ∀{G' H':Hp}{d:D}{v:V},Ext G H G' H'->Rep K G' d v->LR K B G' (upd H' l (.lst (vs++[v]))) (KY m ks d) bw:=by
 induction h with
 |nil=>cases e
 | @cons k0 ds0 l0 vs0 m0 Kc g1 g2 g3 g4 g5 g6 ih =>
  unfold KR at e;by_cases c:k0=ks
  ·rw[if_pos c]at e;cases e;refine⟨l0,vs0,by unfold mY;rw[List.find?_cons_of_pos (by simpa using c)];rfl,g1,g2,g3,g4,⟨_,dC ..,rfl⟩,fun {G' H' d v} x r=>?_⟩;unfold KY;rw[if_pos c];exact .cons aW (x.nw _ _ g1 g2) g3 ((g4.mono x.gg).append (.one r)) g5 ((g6.ext x).frame g5)
  ·rw[if_neg c]at e;obtain⟨l,vs,q1,q2,q3,q4,q5,⟨p,hp,q6⟩,q7⟩:=ih e;refine⟨l,vs,by unfold mY at q1 ⊢;rw[xc (by simpa using c)];exact q1,q2,q3,q4,q5,⟨p,dP _ hp,q6⟩,fun {G' H' d v} x r=>?_⟩;unfold KY;rw[if_neg c];exact .cons (by rw[aK (fun z=>g5 p hp (by rw[q6,z]))];exact x.hh _ _ g1) (x.nw _ _ g1 g2) g3 (g4.mono x.gg) g5 (q7 x r)
noncomputable def HL(K:cS)(B:Bs)(G:Hp)(σ:St)(H:Hp)(i:Nat)(m:Mp):Prop :=
 ∃a U bw,σ[i]?=some (some (.ref a))/\H a=some (.ext (jZ U a bw))/\G a=none/\B.2 a=none/\(∀b ks,U b ks->UG K G b ks)/\LR K B G H m bw
theorem HL.ext{i:Nat}(h:HL K B G σ H i m)(e:Ext G H G' H'):HL K B G' σ H' i m:=by obtain⟨a,U,bw,h1,h2,h3,h4,h5,h6⟩:=h;exact⟨a,U,bw,h1,e.hh _ _ h2,e.nw _ _ h2 h3,h4,fun b ks z=>Same.cV e.gg (h5 b ks z),h6.ext e⟩
theorem HL.set{i j:Nat}{v:Option V}(h:HL K B G σ H i m)(ne:j≠i):HL K B G (σ.set j v) H i m:=by obtain⟨a,U,bw,h1,h2,h3,h4,h5,h6⟩:=h;exact⟨a,U,bw,by rw[cv ne];exact h1,h2,h3,h4,h5,h6⟩
theorem SR.wr(h:SR K B σ H ρ G)(no:wV ρ){a:ae}{o u:HO}(hb:B.2 a=none)(hg:G a=none)(hu:H a=some u)(nt:∀q,u≠.tab q)(ho:∀xs,o≠.tup xs):SR K B σ (upd H a o) ρ G where
 en:=⟨h.en.gg,fun b o' e=>by rw[aK (aP e hb)];exact h.en.hh _ _ e,fun b o' e=>by rw[aK (aP e hg)];exact h.en.gh _ _ e,fun b xs e=>by
  by_cases q:b=a
  ·subst q;rw[aW]at e;cases e;exact absurd rfl (ho xs)
  ·rw[aK q]at e;exact h.en.tp _ _ e,h.en.nw⟩
 len:=h.len
 fz:=h.fz
 own:=fun i z q w=>by rw[no i z q]at w;cases w
 ap:=h.ap
 tie:=h.tie
 co:=h.co.upd hu nt
theorem SR.afX(h:SR K B σ H ρ G)(no:wV ρ){i:Nat}{v:V}:SR K B (σ.set i (some v)) H (ρ.set i .no) G where
 en:=h.en
 len:=by simp[h.len]
 fz:=fun j d q=>by
  by_cases e:i=j
  ·subst e;have hl:i < ρ.length:=by have:=(df.mp q).1;simpa using this
   rw[di hl]at q;cases q
  ·rw[cv e]at q ⊢;exact h.fz j d q
 own:=fun j z q w=>by rw[no.set (y:=.no) rfl j z q]at w;cases w
 ap:=fun j k z z' a q1 w1 q2 w2 q3 q4=>by rw[no.set (y:=.no) rfl j z q1]at w1;cases w1
 tie:=fun j ds a q1 q2=>by have:=no.set (y:=.no) rfl j _ q1;cases this
 co:=h.co
theorem SR.pin(h:SR K B σ H ρ G)(no:wV ρ){l:ae}{vs:List V}(h1:H l=some (.lst vs))(h2:G l=none)(h3:B.2 l=none):SR K B σ H ρ (upd G l (.lst vs))/\Same G (upd G l (.lst vs)):=by
 have gg:Same G (upd G l (.lst vs)):=fun b o e=>by rw[aK (aP e h2)];exact e
 have en:Ext B.1 B.2 (upd G l (.lst vs)) H:=by
  refine⟨h.en.gg.trans gg,h.en.hh,fun b o e=>?_,fun b xs e=>gg _ _ (h.en.tp _ _ e),fun b o e n=>?_⟩
  ·by_cases q:b=l
   ·subst q;rw[aW]at e;cases e;exact h1
   ·rw[aK q]at e;exact h.en.gh _ _ e
  ·rw[aK (aP e h3)];exact h.en.nw _ _ e n
 have fz:∀(i:Nat) (d:D),ρ[i]?=some (.fz d)->∃v,σ[i]?=some (some v)/\Rep K (upd G l (.lst vs)) d v:=fun i d q=>by obtain⟨v,q1,q2⟩:=h.fz i d q;exact⟨v,q1,q2.mono gg⟩
 exact⟨⟨en,h.len,fz,fun i z q w=>absurd w (by rw[no i z q];decide),h.ap,h.tie,h.co⟩,gg⟩
theorem LR.yt(h:LR K B G H m bw)(s:SR K B σ H ρ G)(no:wV ρ):∃G',SR K B σ H ρ G'/\Same G G'/\dD K G' (m.map fun p=>(p.1,.lst p.2)) bw/\∀b,(∀p∈bw,p.2≠.ref b)->G' b=G b:=by
 induction h with
 |nil=>exact⟨G,s,.refl _,.nil,fun _ _=>rfl⟩
 | @cons k0 ds0 l0 vs0 m0 Kc g1 g2 g3 g4 g5 g6 ih =>
  obtain⟨G1,s1,q1,r1,o1⟩:=ih;obtain⟨s2,q2⟩:=s1.pin no g1 (by rw[o1 _ g5];exact g2) g3;refine⟨_,s2,q1.trans q2,.cons (bJ.mpr ⟨l0,vs0,rfl,.of aW,g4.mono (q1.trans q2)⟩) (r1.mono q2),fun b hb=>?_⟩;rw[aK (fun z=>hb _ (dC ..) (by rw[z]))];exact o1 b fun p hp=>hb p (dP _ hp)
theorem HL.yt{i:Nat}(h:HL K B G σ H i m)(s:SR K B σ H ρ G)(no:wV ρ)(hi:i < ρ.length):∃G',SR K B σ H (ρ.set i (.od (m.map fun p=>(p.1,.lst p.2)))) G'/\Same G G':=by
 obtain⟨a,U,bw,h1,h2,h3,h4,h5,h6⟩:=h;obtain⟨G1,s1,q1,r1,o1⟩:=h6.yt s no;have off:∀p∈bw,p.2≠.ref a:=h6.off fun vs e=>by rw[h2]at e;cases e
 have at':∀(j:Nat) (z:Sl),(ρ.set i (.od (m.map fun p=>(p.1,.lst p.2))))[j]?=some z->(i=j/\z=.od (m.map fun p=>(p.1,.lst p.2)))∨(i≠j/\ρ[j]?=some z):=fun j z q=>by
  by_cases e:i=j
  ·subst e;rw[di hi]at q;cases q;exact .inl ⟨rfl,rfl⟩
  ·rw[cv e]at q;exact .inr ⟨e,q⟩
 refine⟨G1,{ en:=s1.en,len:=by simp[s1.len],fz:=fun j d q=>?_,own:=fun j z q w=>?_,ap:=fun j k z z' b q1 w1 q2 w2 q3 q4=>?_,tie:=fun j ds b q1 q2=>?_,co:=s1.co },q1⟩
 ·rcases at' j _ q with ⟨_,e⟩|⟨_,e⟩
  ·cases e
  ·exact s1.fz j d e
 ·rcases at' j _ q with ⟨e1,e⟩|⟨_,e⟩
  ·subst e1;subst e;exact⟨a,_,h1,h2,by rw[o1 a off];exact h3,h4,U,bw,rfl,fun b ks z=>Same.cV q1 (h5 b ks z),r1⟩
  ·rw[no j z e]at w;cases w
 ·rcases at' j _ q1 with ⟨e1,e⟩|⟨_,e⟩
  ·rcases at' k _ q2 with ⟨e2,e'⟩|⟨_,e'⟩
   ·rw[<- e1,<- e2]
   ·rw[no k z' e']at w2;cases w2
  ·rw[no j z e]at w1;cases w1
 ·rcases at' j _ q1 with ⟨e1,e⟩|⟨_,e⟩
  ·cases e
  ·have:=no j _ e;cases this
end
noncomputable def PH(K:cS)(B:Bs)(i:Nat)(G:Hp)(De:Ends):Option (aH×Mp)->Prop
 |some (ρ',m')=>∀σ' H' G',SR K B σ' H' ρ' G'->wV ρ'->Same G G'->HL K B G' σ' H' i m'->De.nx σ' H'
 |none=>False
noncomputable def tH(K:cS)(B:Bs)(i:Nat)(g:aH->Mp->Option (aH×Mp)):TS:=fun De σ H=>∃ρ G m,SR K B σ H ρ G/\wV ρ/\HL K B G σ H i m/\PH K B i G De (g ρ m)
section
variable{X:Cx}{B:Bs}{W:Wi}
noncomputable def Ig(fk:aH->Rs D):aH->Mp->Option (aH×Mp):=fun ρ m=>match fk ρ with
 | .ok k=>(match lO k with
  |some ks=>if m.length<=1000000/\ks∉m.map (·.1) then some (ρ,m++[(ks,[])]) else none
  |none=>none)
 |_=>none
theorem adL(i:Nat){b:ah}{x:Str}{p1 tp pos lp:Pos}{fk:aH->Rs D}(hu:X.A.units + 8 < bX)(hb:SE X B WF b fk)(hN:X.N[i]?=some x:=by rfl)(hv:Ri X.env.scope x:=by first|exact Or.inl rfl|exact Or.inr (Or.inl rfl)|exact Or.inr (Or.inr rfl))(hd:uN x:=by decide)
  (hcd:Rq x:=by decide)
  (hs:mf [.Subscript (.Name x p1) b tp] (.List [] lp) pos.line X.env=pure false:=by rfl) (hw:mh [.Subscript (.Name x p1) b tp] (.List [] lp) X.env=pure none:=by rfl)
  (h1:(fN [.Subscript (.Name x p1) b tp] X.env).map (·.2)=[assign (.Subscript (.Name x p1) b tp) X.env]:=by rfl)
  (ha:∀v,assign (.Subscript (.Name x p1) b tp) X.env v=(do
   let ov <- eL [v] (aS (.Name x p1) X.env)
   let iv <- eL [v,ov] (aS b X.env)
   me tp
   eL [v,ov,iv] (setItem ov iv v)
   release [v,ov,iv] []):=by intro _;rfl) :
  PS X (.Assign [.Subscript (.Name x p1) b tp] (.List [] lp) pos) (tH X.K B i (Ig fk)):=by
 refine PS.imp (Jo (Jt jJ) (RB (nW hN hv hd hcd) hb (Vm (by lia)) ha) hs hw h1) fun De σ H hq=>?_;obtain⟨ρ,G,m,s,no,⟨a,U,bw,e1,h2,h3,h4,h5,h6⟩,p⟩:=hq;refine⟨fR _,fun l hl=>?_⟩;have x1:=CW (xs:=[]) s.en.gh s.en.tp hl;have s1:=s.ext x1;refine⟨_,e1,ρ,G,s1,?_⟩;unfold Ig at p;cases e:fk ρ with
 |no=>rw[e]at p;exact p
 |ex c n=>rw[e]at p;exact p.elim
 |ok k =>
  rw[e]at p;intro v2 H2 G2 y2 r2;dsimp only at p;cases e3:lO k with
  |none=>rw[e3]at p;exact p.elim
  |some ks =>
   rw[e3]at p;dsimp only at p;by_cases hc:m.length<=1000000/\ks∉m.map (·.1)
   ·rw[if_pos hc]at p;obtain⟨b',rfl,hb'⟩:=rE r2 e3;have lr:=h6.ext (x1.trans y2);have ea:H2 a=some (.ext (jZ U a bw)):=y2.hh _ _ (x1.hh _ _ h2);have ga:G2 a=none:=y2.nw _ _ (x1.hh _ _ h2) h3;have gl:G l=none:=by
     cases z:G l with
     |none=>rfl
     |some o=>have:=s.en.gh _ _ z;rw[hl]at this;cases this
    have bl:B.2 l=none:=by
     cases z:B.2 l with
     |none=>rfl
     |some o=>have:=s.en.hh _ _ z;rw[hl]at this;cases this
    refine⟨b',a,ks,U,UG X.K G2,bw,rfl,rfl,Same.cV y2.gh hb',ea,fun b ks z=>Same.cV y2.gg (h5 b ks z),fun b ks z=>Same.cV y2.gh z,hb',by rw[h6.len];exact hc.1,?_⟩;refine p σ _ G2 ((s1.ext y2).wr no h4 ga ea (fun q z=>by cases z) (fun xs z=>by cases z)) no y2.gg ⟨a,UG X.K G2,_,e1,aW,ga,h4,fun _ _ z=>z,?_⟩;have e4:Ec bw ks (.ref l)=bw++[(ks,.ref l)]:=by unfold Ec;rw[lr.new hc.2];rfl
    rw[e4];refine LR.app (lr.frame (lr.off fun vs z=>by rw[ea]at z;cases z)) (vs:=[]) ?_ (y2.nw _ _ aW gl) bl (bf.mpr rfl) (h6.off fun vs z=>by rw[hl]at z;cases z);rw[aK (fun z=>by subst z;rw[h2]at hl;cases hl)];exact y2.hh _ _ aW
   ·rw[if_neg hc]at p;exact p.elim
noncomputable def Ww(fk fe:aH->Rs D):aH->Mp->Option (aH×Mp):=fun ρ m=>match fk ρ with
 | .ok k=>(match lO k with
  |some ks=>(match KR m ks with
   |some ds=>(match fe ρ with
    | .ok d=>if ds.length < 1000000 then some (ρ,KY m ks d) else none
    |_=>none)
   |none=>none)
  |none=>none)
 |_=>none
theorem adM(i:Nat){b e:ah}{x:Str}{pos p1 sp p2 cp:Pos}{fk fe:aH->Rs D}(hu:X.A.units + 8 < bX)(hb:SE X B WF b fk)(he:SE X B WF e fe)(hN:X.N[i]?=some x:=by rfl)(hv:Ri X.env.scope x:=by first|exact Or.inl rfl|exact Or.inr (Or.inl rfl)|exact Or.inr (Or.inr rfl))(hd:uN x:=by decide)
  (hcd:Rq x:=by decide) (hpi:xT b:=by intro _ _;rfl) (hst:bg [e] X.env=[(false,aS e X.env)]:=by rfl)
  (hbase:mE (.Subscript (.Name x p1) b sp) "append" X.env (aS (.Subscript (.Name x p1) b sp) X.env)=aS (.Subscript (.Name x p1) b sp) X.env:=by rfl)
  (hfew:((dt cp (bg [e] X.env)).all (fun x=>!x.1) && (j5 cp (j6 [] X.env)).all (fun x=>x.1.isSome)
   && decide (([e]:List ah).length + ([]:List kX).length + (if ([]:List kX).isEmpty then 0 else 1) < 30))=true:=by rfl)
  (hline:(p2.endLine == cp.line)=true:=by rfl) (hplain:(dt cp (bg [] X.env)).any (·.1)=false:=by rfl)
  (hs:eW (.Call (.Attribute (.Subscript (.Name x p1) b sp) "append" p2) [e] [] cp) none pos.line X.env=pure false:=by rfl) :
  PS X (.Expr (.Call (.Attribute (.Subscript (.Name x p1) b sp) "append" p2) [e] [] cp) pos) (tH X.K B i (Ww fk fe)):=by
 refine PS.imp (Cz (aaN PySem.F.plainAttrs_list PySem.F.slot_list_append PySem.F.type_list_append uU (RN (Vn (by lia)) (nW hN hv hd hcd) hb hpi) (eN he jJ hst) hbase hfew hline hst hplain) hs) fun De σ H hq=>?_;obtain⟨ρ,G,m,s,no,⟨a,U,bw,e1,h2,h3,h4,h5,h6⟩,p⟩:=hq;refine⟨_,e1,ρ,G,s,?_⟩;unfold Ww at p;cases e:fk ρ with
 |no=>rw[e]at p;exact p
 |ex c n=>rw[e]at p;exact p.elim
 |ok k =>
  rw[e]at p;intro v1 H1 G1 y1 r1;dsimp only at p;cases e3:lO k with
  |none=>rw[e3]at p;exact p.elim
  |some ks =>
   rw[e3]at p;dsimp only at p;cases e4:KR m ks with
   |none=>rw[e4]at p;exact p.elim
   |some ds =>
    rw[e4]at p;dsimp only at p;obtain⟨b',rfl,hb'⟩:=rE r1 e3;obtain⟨l,vs,q1,q2,q3,q4,q5,_,q7⟩:=(h6.ext y1).get e4;have s1:=s.ext y1;refine⟨b',a,ks,U,bw,.ref l,rfl,rfl,Same.cV y1.gh hb',Mq (y1.hh _ _ h2),fun c js z=>Same.cV (y1.gg.trans y1.gh) (h5 c js z),q1,.inl ⟨rfl,vs,.of q2⟩,ρ,G1,s1,?_⟩;cases e5:fe ρ with
    |no=>rw[e5]at p;exact p
    |ex c n=>rw[e5]at p;exact p.elim
    |ok d =>
     rw[e5]at p;intro v2 H2 G2 y2 r2;dsimp only at p;by_cases hl:ds.length < 1000000
     ·rw[if_pos hl]at p;have ea:H2 a=some (.ext (jZ U a bw)):=y2.hh _ _ (y1.hh _ _ h2);have el:H2 l=some (.lst vs):=y2.hh _ _ q2;refine⟨l,vs,v2,rfl,rfl,el,by rw[<- q5.length];exact dm hl (by rw[eM];decide),?_⟩;refine p σ _ G2 ((s1.ext y2).wr no q4 (y2.nw _ _ q2 q3) el (fun q z=>by cases z) (fun xs z=>by cases z)) no (y1.gg.trans y2.gg) ⟨a,U,bw,e1,?_,y2.nw _ _ (y1.hh _ _ h2) (y1.nw _ _ h2 h3),h4,fun b ks z=>Same.cV (y1.gg.trans y2.gg) (h5 b ks z),q7 y2 r2⟩;rw[aK (fun z=>by subst z;rw[ea]at el;cases el)];exact ea
     ·rw[if_neg hl]at p;exact p.elim
noncomputable def wW(j:Nat)(gb:aH->Mp->Option (aH×Mp)):List D->aH->Mp->Option (aH×Mp)
 | [],ρ,m=>some (ρ,m)
 |d::ds,ρ,m=>match gb (ρ.set j (.fz d)) m with
  |some (ρ2,m2)=>wW j gb ds ρ2 m2
  |none=>none
noncomputable def nD(j:Nat)(gb:aH->Mp->Option (aH×Mp))(f:aH->Rs D):aH->Mp->Option (aH×Mp):=fun ρ m=>match f ρ with
 | .ok (.tup ds)=>wW j gb ds ρ m
 |_=>none
theorem Es(i j:Nat){x:Str}{iter:ah}{st:bj}{tp pos:Pos}{f:aH->Rs D}{gb:aH->Mp->Option (aH×Mp)}(hp:kT (ax X.prog X.w) X.A X.env X.xe)(hc:X.calm=true)(hN:X.N.Nodup)(hi:SE X B WF iter f)(hb:PS X st (tH X.K B i gb))(hj:X.N[j]?=some x:=by rfl)(hx:FT X.env.scope x:=by first|exact Or.inl rfl|exact Or.inr rfl)
  (hf:X.fn x=true∨X.env.scope.names.lookup x=some .local:=by first|exact .inl rfl|exact .inr rfl|assumption) (ne:j≠i:=by decide)
  (hs:∀x,gc iter X.env x=pure x:=by intro _;rfl):PS X (.For (.Name x tp) iter [st] [] pos) (tH X.K B i (nD j gb f)):=by
 refine PS.imp (uR hp hc (Jr hi) (LK hN hj hx hf) (Lz hb) hs) fun De σ H hq=>?_;obtain⟨ρ,G,m,s,no,hl,p⟩:=hq;refine⟨ρ,G,s,?_⟩;unfold nD at p;cases e:f ρ with
 |no=>rw[e]at p;exact p
 |ex c n=>rw[e]at p;exact p.elim
 |ok d =>
  rw[e]at p;intro v H1 G1 y r;cases d with
  |tup ds =>
   dsimp only at p;obtain⟨a,vs,rfl,q,rr⟩:=bR.mp r;refine⟨a,rfl,⟨vs,Same.cV y.gh q⟩,Mf (xs:=vs) (fun n σ' H'=>∃ρ' G' m',SR X.K B σ' H' ρ' G'/\wV ρ'/\HL X.K B G' σ' H' i m'/\jT X.K G' a vs/\bF X.K G' ds vs/\Same G G'/\PH X.K B i G De (wW j gb (ds.drop n) ρ' m')) ⟨ρ,G1,m,s.ext y,no,hl.ext y,q,rr,y.gg,by simpa using p⟩ (fun n σ' H' _ hq=>?_) ?_ ?_⟩
   ·obtain⟨ρ',G',m',s',_,_,q',_⟩:=hq;exact Same.cV s'.en.gh q'
   ·rintro n x' σ2 H2 hx' ⟨ρ2,G2,m2,s2,no2,hl2,q2,r2,g2,p2⟩;obtain⟨d,hd,rd⟩:=r2.get' hx';have hlt:=(df.mp hd).1;rw[iq hlt,(df.mp hd).2]at p2;refine⟨ρ2.set j (.fz d),G2,m2,s2.set rd,no2.set rfl,hl2.set ne,?_⟩;unfold wW at p2;cases e2:gb (ρ2.set j (.fz d)) m2 with
    |none=>rw[e2]at p2;exact p2
    |some w =>
     obtain⟨ρ3,m3⟩:=w;rw[e2]at p2;exact fun σ' H' G' s' no' q' hl'=>⟨ρ3,G',m3,s',no',hl',Same.cV q' q2,r2.mono q',g2.trans q',p2⟩
   ·rintro σ2 H2 ⟨ρ2,G2,m2,s2,no2,hl2,q2,r2,g2,p2⟩;rw[<- r2.length,oB]at p2;exact p2 σ2 H2 G2 s2 no2 g2 hl2
  |_=>exact p.elim
noncomputable def Oq(i:Nat)(g1 g2:aH->Mp->Option (aH×Mp))(k:aH->Ou):aH->Ou:=fun ρ =>
 if (ρ.all fun z=>!z.own)=true/\i < ρ.length then (match g1 (ρ.set i .no) [] with
  |some (ρ1,m1)=>(match g2 ρ1 m1 with
   |some (ρ2,m2)=>if i < ρ2.length then k (ρ2.set i (.od (m2.map fun p=>(p.1,.lst p.2)))) else .no
   |none=>.no)
  |none=>.no) else .no
theorem aal(i:Nat){x:Str}{st1 st2:bj}{cj:List bj}{pos pos' lp:Pos}{g1 g2:aH->Mp->Option (aH×Mp)}{k:aH->Ou}(hN:X.N.Nodup)(h1:PS X.Pa st1 (tH X.K B i g1))(h2:PS X.Pa st2 (tH X.K B i g2))(h3:rA X B W cj k)(hi:X.N[i]?=some x:=by rfl)(hx:FT X.env.scope x:=by first|exact Or.inl rfl|exact Or.inr rfl)(hs:eW (.Dict [] [] lp) (some (.Name x pos')) pos.line X.env=pure false:=by rfl)(hf:X.fn x=true∨X.env.scope.names.lookup x=some .local:=by first|exact .inl rfl|exact .inr rfl|assumption) :
  rA X B W (.Assign [.Name x pos'] (.Dict [] [] lp) pos::st1::st2::cj) (Oq i g1 g2 k):=by
 refine FJ.imp (tW (CG hN hi hx NT hs hf) (tW (PS.Pa h1) (tW (PS.Pa h2) h3))) fun De σ H hq=>?_;obtain⟨ρ,G,s,p⟩:=hq;intro l hl;unfold Oq at p;by_cases c:(ρ.all fun z=>!z.own)=true/\i < ρ.length
 ·rw[if_pos c]at p;have no:=Wv c.1;have gl:G l=none:=by
   cases z:G l with
   |none=>rfl
   |some o=>have:=s.en.gh _ _ z;rw[hl]at this;cases this
  have bl:B.2 l=none:=by
   cases z:B.2 l with
   |none=>rfl
   |some o=>have:=s.en.hh _ _ z;rw[hl]at this;cases this
  have x1:=CV (o:=.ext (jZ (fun _ _=>False) l [])) s.en.gh s.en.tp (fun xs z=>by cases z) hl;refine⟨ρ.set i .no,G,[],(s.ext x1).afX no,no.set rfl,⟨l,_,[],by rw[di (by rw[<- s.len];exact c.2)],aW,gl,bl,fun _ _ z=>z.elim,.nil⟩,?_⟩;cases e1:g1 (ρ.set i .no) [] with
  |none=>rw[e1]at p;exact p
  |some w =>
   obtain⟨ρ1,m1⟩:=w;rw[e1]at p;dsimp only at p;intro σ1 H1 G1 s1 no1 q1 hl1;refine⟨ρ1,G1,m1,s1,no1,hl1,?_⟩;cases e2:g2 ρ1 m1 with
   |none=>rw[e2]at p;exact p
   |some w =>
    obtain⟨ρ2,m2⟩:=w;rw[e2]at p;dsimp only at p;intro σ2 H2 G2 s2 no2 q2 hl2;by_cases c2:i < ρ2.length
    ·rw[if_pos c2]at p;obtain⟨G3,s3,q3⟩:=hl2.yt s2 no2 c2;exact⟨_,G3,s3,cP.same p (q1.trans (q2.trans q3))⟩
    ·rw[if_neg c2]at p;exact p.elim
 ·rw[if_neg c]at p;exact p.elim
end
end Vl
namespace Ih
open PySem PySem.Spec PySem.Calls PySem.W L2 Vl
def yh(i:Nat):bj:=PySem.Challenge.pw_edgemoss_k25_greatest_marks.main.body.getD i (.Pass ⟨0,0,0,0⟩)
noncomputable abbrev pJ:bj:=yh 33
noncomputable abbrev qJ:bj:=yh 32
noncomputable abbrev qK:bj:=yh 35
noncomputable abbrev qL:bj:=yh 34
noncomputable abbrev oF:bj:=yh 36
noncomputable abbrev qM:bj:=yh 31
noncomputable abbrev nF:bj:=yh 41
noncomputable abbrev mL:bj:=yh 18
noncomputable abbrev qN:bj:=yh 2
noncomputable abbrev cF:bj:=yh 24
noncomputable abbrev pK:bj:=yh 1
noncomputable abbrev oG:bj:=yh 25
noncomputable abbrev fu:bj:=yh 26
noncomputable abbrev fD:bj:=yh 23
noncomputable abbrev Et:bj:=yh 22
noncomputable abbrev pL:bj:=yh 28
noncomputable abbrev yj:bj:=yh 29
noncomputable abbrev mO:bj:=yh 43
noncomputable abbrev qO:bj:=yh 38
noncomputable abbrev tM:bj:=yh 37
noncomputable abbrev iz:bj:=yh 39
noncomputable abbrev mQ:bj:=yh 40
noncomputable abbrev pN:bj:=yh 42
noncomputable abbrev pY:bj:=yh 44
noncomputable def Cq(c:Str):Bool:=c == "Endless"
noncomputable def kI(c:Str):Bool:=c == "MossError" || c == "Endless"
noncomputable abbrev nG:=kI
noncomputable def J_0(c:Str):Option Bool:=i9 c [("Endless",false)]
noncomputable def J_1(c:Str):Option Bool:=i9 c [("Endless",true)]
noncomputable def J_2(c:Str):Option Bool:=i9 c [("Endless",true)]
structure Txt (P:aE)(w:az)(base:Heap)(K:cS)(mg:Str->Option aa)(cA cg iV iW gC iY kJ iZ kO jc jd:ae):Prop where
 Eu:mg "ValueError"=none
 abl:mg "all"=none
 KZ:mg "bool"=none
 eF:mg "divmod"=none
 abm:mg "int"=none
 bV:mg "isinstance"=none
 Ii:mg "len"=none
 La:mg "list"=none
 Wx:mg "max"=none
 Wy:mg "min"=none
 yp:mg "range"=none
 Lb:mg "reversed"=none
 uJ:mg "sorted"=none
 abn:mg "str"=none
 rM:mg "tuple"=none
 afY:mg "zip"=none
 Cr:mg "Endless"=some (.ref cA)
 fM:cf K bu "Endless"=some (some (.ref cA))
 vH:excIn K cA [.type "ValueError",.type "Exception",.type "BaseException",.type "object"] "ValueError.__new__"=true
 aeh:∀c C,Cq c=true->cf K bu c=some (some (.ref C))->gr K (.ref C) (.ref cA)=some true
 Ij:mg "MossError"=some (.ref cg)
 kW:cf K bu "MossError"=some (some (.ref cg))
 wF:excIn K cg [.type "ValueError",.type "Exception",.type "BaseException",.type "object"] "ValueError.__new__"=true
 abo:∀c C,kI c=true->cf K bu c=some (some (.ref C))->gr K (.ref C) (.ref cg)=some true
 nG:∀c C,kI c=true->cf K bu c=some (some (.ref C))->exmOne K (.ref C) (.ref cg)=some true
 QH:mg "BadCell"=some (.ref iV)
 QJ:mg "BadDeed"=some (.ref iW)
 Ld:mg "BadPiece"=some (.ref gC)
 QK:mg "BadTurn"=some (.ref iY)
 Wz:mg "NoCell"=some (.ref kJ)
 QL:mg "NoMarks"=some (.ref iZ)
 WD:mg "NoText"=some (.ref kO)
 QM:mg "TooMany"=some (.ref jc)
 QS:mg "TooWide"=some (.ref jd)
 j_0:∀c b C,J_0 c=some b->cf K bu c=some (some (.ref C))->Nb K C=true/\kitAny K (.ref C) (List.map aa.ref [iV,iW,gC,iY,kJ,iZ,kO,jc,jd])=some b
 j_1:∀c b C,J_1 c=some b->cf K bu c=some (some (.ref C))->Nb K C=true/\gr K (.ref C) (.ref cA)=some b
 j_2:∀c b C,J_2 c=some b->cf K bu c=some (some (.ref C))->Nb K C=true/\gr K (.ref C) (.type "ValueError")=some b
theorem bG:bM ["number","way","many","steps","k","at","step","row","column"] ["number"] (aJ pJ):=lQ
theorem eV:bM ["cell","salt","one","number","j"] ["cell","salt"] (aJ qJ):=lQ
theorem dI:bM ["number","way","row","column","by"] ["number"] (aJ qK):=lQ
theorem Ew:bM ["row","column"] ["row","column"] (aJ qL):=lQ
theorem bL:bM ["number","piece","most","base","many","cells","k","at","step","way"] ["number","piece","most"] (aJ oF):=lQ
theorem Ey:bM ["script","k"] ["script","k"] (aJ qM):=lQ
theorem Ez:bM ["found","due"] ["found","due"] (aJ nF):=lQ
theorem wX:bM ["shape"] ["shape"] (aJ mL):=lQ
theorem EY:bM ["cell","step"] ["cell","step"] (aJ qN):=lQ
theorem gJ:bM ["piece","met","place","stride"] ["piece"] (aJ cF):=lQ
theorem Al:bM ["cell","step"] ["cell","step"] (aJ pK):=lQ
theorem mR:bM ["cells","stride","lengths","cell"] ["cells","stride"] (aJ oG):=lQ
theorem jN:bM ["piece","stride","lengths","heads"] ["piece","stride"] (aJ fu):=lQ
theorem cG:bM ["cells","piece","stride","lengths","places","head","length"] ["cells","piece"] (aJ fD):=lQ
theorem WK:bM ["shape","piece"] ["shape","piece"] (aJ Et):=lQ
theorem gZ:bM ["shape","piece","holders","cell","place","step"] ["shape","piece"] (aJ pL):=lQ
theorem zY:bM ["shape","piece","holders","bare"] ["shape","piece"] (aJ yj):=lQ
theorem iB:bM ["shape","piece","kind","e"] ["shape","piece"] (aJ mO):=lQ
theorem Fb:bM ["cell","step"] ["cell","step"] (aJ qO):=lQ
theorem Ik:bM ["cell","step"] ["cell","step"] (aJ tM):=lQ
theorem cU:bM ["cells","piece","held","cell","found","place"] ["cells","piece"] (aJ iz):=lQ
theorem iC:bM ["found","piece","cells","mark","step"] ["found","piece"] (aJ mQ):=lQ
theorem kY:bM ["cells","piece","found","brought","cell","bare"] ["cells","piece"] (aJ pN):=lQ
theorem vI:bM ["script","piece","number","cell","cells"] ["script"] (aJ pY):=lQ
section
variable{P:aE}{w:az}{K:cS}{mg:Str->Option aa}{base:Heap}{cA cg iV iW gC iY kJ iZ kO jc:ae}{jd:ae}
noncomputable def ig:aH->Ou :=
  bO (lK (fA (ak (aD 0) (ak (fC (.int 25)) aZ)) Bj) (ji 2 (bQ (aR 0) (bQ (aR 5) jE))))
  (bO (gQ 6 (fA (ak (bH nY (bH wQ (aD 5) (fC (.int 5))) (fC (.int 2))) (ak (bH nY (bH oM (aD 5) (fC (.int 5))) (fC (.int 2))) aZ)) gP))
  (bO (uo (fT (bH yR (aD 1) (fC (.int 1)))) (bO (lK (fA (ak (aD 0) (ak (bH cM (bH fZ (fC (.int 2)) (bH mq (fC (.int 10)) (fC (.int 6)))) (fC (.int 1))) aZ)) Bj) (ji 2 (bQ (aR 0) (bQ (aR 7) jE))))
  (bO (lK (fA (ak (aD 0) (ak (bH cM (bH fZ (fC (.int 2)) (bH mq (fC (.int 10)) (fC (.int 6)))) (fC (.int 1))) aZ)) Bj) (ji 2 (bQ (aR 0) (bQ (aR 8) jE))))
  (gQ 6 (fA (ak (bH nY (aD 7) (bH mq (fC (.int 10)) (fC (.int 6)))) (ak (bH nY (aD 8) (bH mq (fC (.int 10)) (fC (.int 6)))) aZ)) gP)))) wB)
  (nu 3 (fC (.bl true)) (aD 6))))
noncomputable def lR:aH->Ou :=
  bO (lK (fA (ak (aD 0) (ak (fC (.int 8)) aZ)) Bj) (ji 2 (bQ (aR 0) (bQ (aR 1) jE))))
  (bO (lK (fA (ak (aD 0) (ak (fC (.int 5)) aZ)) Bj) (ji 2 (bQ (aR 0) (bQ (aR 2) jE))))
  (bO (uo (fT (bH yR (aD 1) (fC (.int 0)))) (lK (fA (ak (aD 0) (ak (fC (.int 12)) aZ)) Bj) (ji 2 (bQ (aR 0) (bQ (aR 2) jE)))) wB)
  (bO (Hx 3)
  (bO (qw (wA (aR 4) ig (bH cM (fC (.int 1)) (aD 2))))
  (dz (fA (ak (fA (ak (oE 3) aZ) mC) (ak (aD 0) aZ)) gP))))))
noncomputable def jw:List D->Rs D:=fun ds=>dY (lR (aY ["number","way","many","steps","k","at","step","row","column"] ds))
variable(T:Txt P w base K mg cA cg iV iW gC iY kJ iZ kO jc jd)
include T
theorem Am(F:qg K mg "_law_piece" pJ) :jj P w K mg base "_law_piece" 1 1 jw :=
 gB (k:=0) (g:=lR) F bG fun _ _ _ _ _ _ _ _ hr hx =>
  aM (gR (cT T.eF (sv 0) aG) (fQ rfl (bB (rg 0 bG.nd) (bB (rg 1 bG.nd) dh))))
  (aM (gR (cT T.eF (sv 0) aG) (fQ rfl (bB (rg 0 bG.nd) (bB (rg 2 bG.nd) dh))))
  (aM (jr (Gs (dH hr) (sv 1) aG) (bh (gR (cT T.eF (sv 0) aG) (fQ rfl (bB (rg 0 bG.nd) (bB (rg 2 bG.nd) dh))))) eU)
  (aM (tE 3 bG.nd)
  (aM (mF (Dj fE rfl T.yp (cW aG (sv 2)) (rg 4 bG.nd) (aM (gR (cT T.eF (sv 0) aG) (fQ rfl (bB (rg 0 bG.nd) (bB (rg 5 bG.nd) dh))))
  (aM (gk 6 bG.nd (dw (aq (jo (Dh (sv 5) aG) aG) (aq (jo (qp (sv 5) aG) aG) aQ))))
  (aM (jr (Gs (dH hr) (sv 1) aG) (aM (gR (cT T.eF (sv 0) (cW (jq aG (iM aG aG)) aG)) (fQ rfl (bB (rg 0 bG.nd) (bB (rg 7 bG.nd) dh))))
  (aM (gR (cT T.eF (sv 0) (cW (jq aG (iM aG aG)) aG)) (fQ rfl (bB (rg 0 bG.nd) (bB (rg 8 bG.nd) dh))))
  (bh (gk 6 bG.nd (dw (aq (jo (sv 7) (iM aG aG)) (aq (jo (sv 8) (iM aG aG)) aQ))))))) eU)
  (bh (nA 3 (dH hr) ni (sv 6))))))))
  (bh (bW (dw (aq (ux T.rM (zP 3 rfl T.uJ)) (aq (sv 0) aQ)))))))))
noncomputable def eZ:aH->Ou :=
  bO (gQ 2 (bH oM (bH fZ (bH cM (bH cM (bH cM (aD 2) (bH fZ (bH fZ (fC (.int 15)) (aD 4)) (aD 4))) (bH fZ (fC (.int 31)) (aD 1))) (fC (.int 11))) (fC (.int 48271))) (fC (.int 2147483647))))
  (bO (gQ 2 (bH oM (bH fZ (aD 2) (aD 2)) (fC (.int 2147483629))))
  (gQ 3 (bH cM (bH fZ (aD 3) (fC (.int 998244353))) (bH wQ (bH oM (bH fZ (aD 2) (fC (.int 69621))) (fC (.int 2147483587))) (fC (.int 7))))))
noncomputable def nH:aH->Ou :=
  bO (uo (fT (bH gGe (aD 0) (bH mq (fC (.int 10)) (fC (.int 18))))) (dz (bH nY (aD 0) (bH mq (fC (.int 10)) (fC (.int 18))))) wB)
  (bO (gQ 2 (bH oM (aD 0) (fC (.int 2147483629))))
  (bO (gQ 3 (fC (.int 0)))
  (bO (qw (wA (aR 4) eZ (fC (.int 24))))
  (dz (aD 3)))))
noncomputable def dJ:List D->Rs D:=fun ds=>dY (nH (aY ["cell","salt","one","number","j"] ds))
theorem Fd(F:qg K mg "_law_deal" qJ) :jj P w K mg base "_law_deal" 1 2 dJ :=
 gB (k:=0) (g:=nH) F eV fun _ _ _ _ _ _ _ _ hr hx =>
  aM (jr (aaT (sv 0) (iM aG aG)) (bh (bW (jo (sv 0) (iM aG aG)))) eU)
  (aM (gk 2 eV.nd (qp (sv 0) aG))
  (aM (gk 3 eV.nd aG)
  (aM (mF (Dj fE rfl T.yp aG (rg 4 eV.nd) (aM (gk 2 eV.nd (qp (jq (cW (cW (cW (sv 2) (jq (jq aG (sv 4)) (sv 4))) (jq aG (sv 1))) aG) aG) aG))
  (aM (gk 2 eV.nd (qp (jq (sv 2) (sv 2)) aG))
  (bh (gk 3 eV.nd (cW (jq (sv 3) aG) (Dh (qp (jq (sv 2) aG) aG) aG))))))))
  (bh (bW (sv 3))))))
noncomputable def je:aH->Ou :=
  bO (lK (fA (ak (aD 0) (ak (fC (.int 5)) aZ)) Bj) (ji 2 (bQ (aR 0) (bQ (aR 1) jE))))
  (bO (uo (fT (bH gGt (aD 1) (fC (.int 1)))) (dz (fA (ak (fA (ak (fC (.int 0)) (ak (fC (.int 0)) aZ)) gP) (ak (aD 0) aZ)) gP)) wB)
  (bO (lK (fA (ak (aD 0) (ak (bH gU (fA (ak (bH cM (bH fZ (fC (.int 2)) (bH mq (fC (.int 10)) (fC (.int 12)))) (fC (.int 1))) (ak (fC (.int 2)) aZ)) wO) (aD 1)) aZ)) Bj) (ji 2 (bQ (aR 0) (bQ (aR 2) jE))))
  (bO (lK (fA (ak (aD 0) (ak (bH gU (fA (ak (bH cM (bH fZ (fC (.int 2)) (bH mq (fC (.int 10)) (fC (.int 12)))) (fC (.int 1))) (ak (fC (.int 2)) aZ)) wO) (aD 1)) aZ)) Bj) (ji 2 (bQ (aR 0) (bQ (aR 3) jE))))
  (bO (gQ 4 (bH gU (fA (ak (fC (.int 1)) (ak (bH fZ (fC (.int 2)) (bH mq (fC (.int 10)) (fC (.int 12)))) aZ)) wO) (aD 1)))
  (dz (fA (ak (fA (ak (bH nY (bH fZ (aD 2) (aD 4)) (bH mq (fC (.int 10)) (fC (.int 12)))) (ak (bH nY (bH fZ (aD 3) (aD 4)) (bH mq (fC (.int 10)) (fC (.int 12)))) aZ)) gP) (ak (aD 0) aZ)) gP))))))
noncomputable def jf:List D->Rs D:=fun ds=>dY (je (aY ["number","way","row","column","by"] ds))
theorem Fe(F:qg K mg "_law_base" qK) :jj P w K mg base "_law_base" 1 1 jf :=
 gB (k:=0) (g:=je) F dI fun _ _ _ _ _ _ _ _ hr hx =>
  aM (gR (cT T.eF (sv 0) aG) (fQ rfl (bB (rg 0 dI.nd) (bB (rg 1 dI.nd) dh))))
  (aM (jr (aaS (sv 1) aG) (bh (bW (dw (aq (dw (aq aG (aq aG aQ))) (aq (sv 0) aQ))))) eU)
  (aM (gR (cT T.eF (sv 0) (cC (uZ (aq (cW (jq aG (iM aG aG)) aG) (aq aG aQ))) (sv 1))) (fQ rfl (bB (rg 0 dI.nd) (bB (rg 2 dI.nd) dh))))
  (aM (gR (cT T.eF (sv 0) (cC (uZ (aq (cW (jq aG (iM aG aG)) aG) (aq aG aQ))) (sv 1))) (fQ rfl (bB (rg 0 dI.nd) (bB (rg 3 dI.nd) dh))))
  (aM (gk 4 dI.nd (cC (uZ (aq aG (aq (jq aG (iM aG aG)) aQ))) (sv 1)))
  (bh (bW (dw (aq (dw (aq (jo (jq (sv 2) (sv 4)) (iM aG aG)) (aq (jo (jq (sv 3) (sv 4)) (iM aG aG)) aQ))) (aq (sv 0) aQ)))))))))
noncomputable def nJ:aH->Ou :=
  dz (fA (ak (fA (ak (Gw (bH mq (fC (.int 10)) (fC (.int 12)))) (ak (fA (ak (bH mq (fC (.int 10)) (fC (.int 12))) (ak (aD 0) aZ)) Hy) aZ)) HB) (ak (fA (ak (Gw (bH mq (fC (.int 10)) (fC (.int 12)))) (ak (fA (ak (bH mq (fC (.int 10)) (fC (.int 12))) (ak (aD 1) aZ)) Hy) aZ)) HB) aZ)) gP)
noncomputable def gD:List D->Rs D:=fun ds=>dY (nJ (aY ["row","column"] ds))
theorem Fg(F:qg K mg "_law_kept" qL) :jj P w K mg base "_law_kept" 1 2 gD :=
 gB (k:=0) (g:=nJ) F Ew fun _ _ _ _ _ _ _ _ hr hx =>
  bh (bW (dw (aq (Od rfl T.Wx (TJ (iM aG aG)) (Ob rfl T.Wy (iM aG aG) (sv 0))) (aq (Od rfl T.Wx (TJ (iM aG aG)) (Ob rfl T.Wy (iM aG aG) (sv 1))) aQ))))
noncomputable def jx:aH->Ou :=
  nu 5 (fC (.bl true)) (fA (ak (bH cM (bH cM (bH gU (aD 3) (fC (.int 0))) (bH wQ (aD 7) (fC (.int 6)))) (bH gU (aD 8) (fC (.int 0)))) (ak (bH cM (bH cM (bH gU (aD 3) (fC (.int 1))) (bH oM (aD 7) (fC (.int 6)))) (bH gU (aD 8) (fC (.int 1)))) aZ)) (bD 2 gD))
noncomputable def jy:aH->Ou :=
  bO (lK (fA (ak (aD 0) (ak (fC (.int 36)) aZ)) Bj) (ji 2 (bQ (aR 0) (bQ (aR 7) jE))))
  (yN (aR 8) jx (aD 1))
noncomputable def iu:aH->Ou :=
  bO (lK (fA (ak (aD 0) aZ) (bD 1 jf)) (ji 2 (bQ (aR 3) (bQ (aR 0) jE))))
  (bO (lK (fA (ak (aD 0) (ak (bH cM (aD 2) (fC (.int 1))) aZ)) Bj) (ji 2 (bQ (aR 0) (bQ (aR 4) jE))))
  (bO (Hx 5)
  (bO (qw (wA (aR 6) jy (aD 4)))
  (bO (lK (fA (ak (aD 0) (ak (fC (.int 4)) aZ)) Bj) (ji 2 (bQ (aR 0) (bQ (aR 9) jE))))
  (bO (uo (fT (bH yR (aD 9) (fC (.int 0)))) (bO (lK (fA (ak (aD 0) (ak (fC (.int 49)) aZ)) Bj) (ji 2 (bQ (aR 0) (bQ (aR 7) jE))))
  (nu 5 (fC (.bl true)) (fA (ak (bH nY (bH cM (bH gU (aD 3) (fC (.int 0))) (bH wQ (aD 7) (fC (.int 7)))) (fC (.int 1))) (ak (bH nY (bH cM (bH gU (aD 3) (fC (.int 1))) (bH oM (aD 7) (fC (.int 7)))) (fC (.int 1))) aZ)) (bD 2 gD)))) wB)
  (dz (fA (ak (fA (ak (oE 5) aZ) mC) (ak (aD 0) aZ)) gP)))))))
noncomputable def iw:List D->Rs D:=fun ds=>dY (iu (aY ["number","piece","most","base","many","cells","k","at","step","way"] ds))
theorem zZ(F:qg K mg "_law_marked" oF) (qP:jj P w K mg base "_law_base" 1 1 jf) (nM:jj P w K mg base "_law_kept" 1 2 gD):jj P w K mg base "_law_marked" 2 3 iw :=
 gB (k:=1) (g:=iu) F bL fun _ _ _ _ _ _ _ _ hr hx =>
  aM (gR (bK qP hr hx (aq (sv 0) aQ)) (fQ rfl (bB (rg 3 bL.nd) (bB (rg 0 bL.nd) dh))))
  (aM (gR (cT T.eF (sv 0) (cW (sv 2) aG)) (fQ rfl (bB (rg 0 bL.nd) (bB (rg 4 bL.nd) dh))))
  (aM (tE 5 bL.nd)
  (aM (mF (Dj fE rfl T.yp (sv 4) (rg 6 bL.nd) (aM (gR (cT T.eF (sv 0) aG) (fQ rfl (bB (rg 0 bL.nd) (bB (rg 7 bL.nd) dh))))
  (bh (xV fE rfl (sv 1) (rg 8 bL.nd) (bh (nA 5 (dH hr) ni (bK nM hr cH (aq (cW (cW (cC (sv 3) aG) (Dh (sv 7) aG)) (cC (sv 8) aG)) (aq (cW (cW (cC (sv 3) aG) (qp (sv 7) aG)) (cC (sv 8) aG)) aQ))))))))))
  (aM (gR (cT T.eF (sv 0) aG) (fQ rfl (bB (rg 0 bL.nd) (bB (rg 9 bL.nd) dh))))
  (aM (jr (Gs (dH hr) (sv 9) aG) (aM (gR (cT T.eF (sv 0) aG) (fQ rfl (bB (rg 0 bL.nd) (bB (rg 7 bL.nd) dh))))
  (bh (nA 5 (dH hr) ni (bK nM hr hx (aq (jo (cW (cC (sv 3) aG) (Dh (sv 7) aG)) aG) (aq (jo (cW (cC (sv 3) aG) (qp (sv 7) aG)) aG) aQ)))))) eU)
  (bh (bW (dw (aq (ux T.rM (zP 5 rfl T.uJ)) (aq (sv 0) aQ))))))))))
noncomputable def jg:aH->Ou :=
  bO (uo (fT (bH gLt (aD 1) (fA (ak (aD 0) aZ) vd))) (dz (bH gU (aD 0) (aD 1))) wB)
  (dz (fC (.int 0)))
noncomputable def eH:List D->Rs D:=fun ds=>dY (jg (aY ["script","k"] ds))
theorem Fi(F:qg K mg "_law_cell" qM) :jj P w K mg base "_law_cell" 1 2 eH :=
 gB (k:=0) (g:=jg) F Ey fun _ _ _ _ _ _ _ _ hr hx =>
  aM (jr (afj (sv 1) (yL T.Ii (sv 0))) (bh (bW (cC (sv 0) (sv 1)))) eU)
  (bh (bW aG))
noncomputable def uK(vr:List D->Rs D):aH->Rs D :=
  fA (ak (aD 0) (ak (aD 1) aZ)) (bD 2 vr)
noncomputable def cL(vr:List D->Rs D):aH->Ou :=
  bO (uo (fT (bH JW (aD 1) (fC .non))) (dz (bH JW (aD 0) (fC .non))) wB)
  (bO (uo (fT (fB (aD 1) (JF .bool))) (dz (pW (fB (aD 0) (JF .bool)) (bH yR (aD 0) (aD 1)))) wB)
  (bO (uo (fT (fB (aD 1) (JF .int))) (dz (pW (fB (aD 0) (JF .int)) (pW (Gk (fB (aD 0) (JF .bool))) (bH yR (aD 0) (aD 1))))) wB)
  (bO (uo (fT (fB (aD 1) (JF .str))) (dz (pW (fB (aD 0) (JF .str)) (bH yR (aD 0) (aD 1)))) wB)
  (bO (uo (fOr (wN (fT (fB (aD 1) (JF .tuple))) (yI (fT (fB (aD 0) (JF .tuple))))) (wN (fT (fB (aD 1) (JF .list))) (yI (fT (fB (aD 0) (JF .list)))))) (dz (fC (.bl false))) wB)
  (dz (pW (bH yR (fA (ak (aD 0) aZ) vd) (fA (ak (aD 1) aZ) vd)) (fA (ak (dZ (ji 2 (bQ (aR 0) (bQ (aR 1) jE))) (fun _=>.ok true) (uK vr) 2 [] (fL2 (ak (aD 0) (ak (aD 1) aZ)) asZ)) aZ) Du)))))))
noncomputable def bN:Nat->List D->Rs D
 | 0=>fun _=>.no
 |n + 1=>fun ds=>dY (cL (bN n) (aY ["found","due"] ds))
theorem Fj(F:qg K mg "_law_same" nF) :∀n,jj P w K mg base "_law_same" (0 + 1 + n) 2 (bN n) :=
 Ie (g:=cL) 0 F Ez fun _ _ hk adN _ _ _ _ _ _ _ _ hr hx =>
  aM (jr (adf (sv 1) Jx) (bh (bW (ade (sv 0) Jx))) eU)
  (aM (jr (jK (qx (t:=.bool) T.bV T.KZ (sv 1) PyProof.Rows.Boot.«bool»)) (bh (bW (uY (qx (t:=.bool) T.bV T.KZ (sv 0) PyProof.Rows.Boot.«bool») (yJ (MN (dH hr) (sv 0) (sv 1)))))) eU)
  (aM (jr (jK (qx (t:=.int) T.bV T.abm (sv 1) PyProof.Rows.Boot.«int»)) (bh (bW (uY (qx (t:=.int) T.bV T.abm (sv 0) PyProof.Rows.Boot.«int») (uY (acg (qx (t:=.bool) T.bV T.KZ (sv 0) PyProof.Rows.Boot.«bool»)) (yJ (MN (dH hr) (sv 0) (sv 1))))))) eU)
  (aM (jr (jK (qx (t:=.str) T.bV T.abn (sv 1) PyProof.Rows.Boot.«str»)) (bh (bW (uY (qx (t:=.str) T.bV T.abn (sv 0) PyProof.Rows.Boot.«str») (yJ (MN (dH hr) (sv 0) (sv 1)))))) eU)
  (aM (jr (Yz (aeP (Yz (Jz (jK (qx (t:=.tuple) T.bV T.rM (sv 1) PyProof.Rows.Boot.«tuple»)) (Df (Dg (jK (qx (t:=.tuple) T.bV T.rM (sv 0) PyProof.Rows.Boot.«tuple»)))))) (ace (Yz (Jz (jK (qx (t:=.list) T.bV T.La (sv 1) PyProof.Rows.Boot.«list»)) (Df (Dg (jK (qx (t:=.list) T.bV T.La (sv 0) PyProof.Rows.Boot.«list»))))))))) (bh (bW ni)) eU)
  (bh (bW (uY (MN (dH hr) (yL T.Ii (sv 0)) (yL T.Ii (sv 1))) (yJ (TQ rfl T.abl (Dw (lN (aJ nF) ["found","due"] (N:=["one","other"]) (nt:=2) (caps:=[]) (by decide+kernel)) rfl (by decide+kernel) (adn T.afY (sv 0) (sv 1)) (TY (Bt gH (Bt gH TX))) (fun s₀ H₀ C ex pins B1=>fQ rfl (bB (rg 0 (show kg (["one","other"]:List Str) by decide)) (bB (rg 1 (show kg (["one","other"]:List Str) by decide)) dh))) (fun s₀ H₀ C ex pins B1=>bK adN hr cH (aq (sv 0) (aq (sv 1) aQ)) (hkr:=bz _))))))))))))
noncomputable def qQ:aH->Ou :=
  uo (fT (bH gU (aD 0) (fC (.int 1)))) (Zg "Endless" (ak (fC (.str "this is told of finite shapes alone")) aZ)) wB
noncomputable def eG:List D->Rs D:=fun ds=>dY (qQ (aY ["shape"] ds))
theorem wY(F:qg K mg "check_finite" mL) :jj P w K mg base "check_finite" 1 1 eG :=
 gB (k:=0) (g:=qQ) F wX fun _ _ _ _ _ _ _ _ hr hx =>
  bh (jr (jK (cC (sv 0) aG)) (bh (Tp rB rfl rfl rfl T.Cr T.fM T.vH PySem.F.excBase_ValueError (by decide) PySem.F.excBase_ValueError (aq yD aQ) (by decide))) eU)
noncomputable def wG:aH->Ou :=
  dz (fA (ak (bH nY (bH gU (aD 0) (fC (.int 0))) (bH gU (aD 1) (fC (.int 0)))) (ak (bH nY (bH gU (aD 0) (fC (.int 1))) (bH gU (aD 1) (fC (.int 1)))) aZ)) gP)
noncomputable def dM:List D->Rs D:=fun ds=>dY (wG (aY ["cell","step"] ds))
theorem Fl(F:qg K mg "cell_less" qN) :jj P w K mg base "cell_less" 1 2 dM :=
 gB (k:=0) (g:=wG) F EY fun _ _ _ _ _ _ _ _ hr hx =>
  bh (bW (dw (aq (jo (cC (sv 0) aG) (cC (sv 1) aG)) (aq (jo (cC (sv 0) aG) (cC (sv 1) aG)) aQ))))
noncomputable def fX:aH->Ou :=
  bO (gQ 3 (fA (ak (bH gU (aD 0) (aD 2)) (ak (bH gU (aD 0) (bH nY (aD 2) (fC (.int 1)))) aZ)) (bD 2 dM)))
  (nu 1 (bH cM (zN 1 (ak (aD 3) (ak (fC (.int 0)) aZ))) (fC (.int 1))) (aD 3))
noncomputable def iD:aH->Ou :=
  bO (Hx 1)
  (bO (qw (yO (aR 2) fX (ak (fC (.int 1)) (ak (fA (ak (aD 0) aZ) vd) aZ))))
  (zU 1 (dz (HY [1] (fB (aD 1) tK) (bH zV (aD 1) (aD 0)) (fA (ak (fC (.int 0)) (ak (fC (.int 1)) aZ)) gP)))))
noncomputable def fG:List D->Rs D:=fun ds=>dY (iD (aY ["piece","met","place","stride"] ds))
theorem vJ{f c0 t0:ae}{fd:dq}(F:adI K "common_stride" cF f fd c0 t0 "common_stride.<locals>.<lambda>") (hm:mg "common_stride"=some (.ref f)) (dN:jj P w K mg base "cell_less" 1 2 dM):jj P w K mg base "common_stride" 2 1 fG :=
 aaj (k:=1) (g:=iD) F hm gJ (fun _ _ _ _ _ _ us hl=>match us,hl with|[_],_=>rfl) fun _ _ _ _ _ _ hr hx =>
  aM (tE 1 gJ.nd)
  (aM (mF (SX fE rfl T.yp aG (yL T.Ii (sv 0)) (rg 2 gJ.nd) (aM (gk 3 gJ.nd (bK dN hr cH (aq (cC (sv 0) (sv 2)) (aq (cC (sv 0) (jo (sv 2) aG)) aQ))))
  (bh (nA 1 (dH hr) (cW (Oa 1 (dH hr) (aq (sv 3) (aq aG aQ))) aG) (sv 3))))))
  (uH 1 (bh (bW (aag (caps:=[1]) (pn:="difference") (Nc:=["met"]) rfl rfl hr T.Wx rfl (Wo rfl T.La (sv 1)) (dw (aq aG (aq aG aQ))) (lN (aJ cF) ["piece","met","place","stride"] (N:=["difference","met"]) (nt:=1) (caps:=[1]) (by decide+kernel)) rfl (fun s₀ H₀ f₀ cd₀ B1=>KD (afR hr) (sv 1) (sv 0)) F.mem rfl F.hd rfl rfl rfl rfl (fun _ _ _ _=>rfl))))))
noncomputable def uL:aH->Ou :=
  dz (fA (ak (bH cM (bH gU (aD 0) (fC (.int 0))) (bH gU (aD 1) (fC (.int 0)))) (ak (bH cM (bH gU (aD 0) (fC (.int 1))) (bH gU (aD 1) (fC (.int 1)))) aZ)) gP)
noncomputable def cI:List D->Rs D:=fun ds=>dY (uL (aY ["cell","step"] ds))
theorem Ao(F:qg K mg "cell_moved" pK) :jj P w K mg base "cell_moved" 1 2 cI :=
 gB (k:=0) (g:=uL) F Al fun _ _ _ _ _ _ _ _ hr hx =>
  bh (bW (dw (aq (cW (cC (sv 0) aG) (cC (sv 1) aG)) (aq (cW (cC (sv 0) aG) (cC (sv 1) aG)) aQ))))
noncomputable def iG:aH->Ou :=
  nu 2 (bH cM (zN 2 (ak (fA (ak (aD 3) (ak (aD 1) aZ)) (bD 2 cI)) (ak (fC (.int 0)) aZ))) (fC (.int 1))) (aD 3)
noncomputable def jX:aH->Ou :=
  bO (Hx 2)
  (bO (qw (Oh (aR 3) iG (fL (aD 0) asV)))
  (zU 2 (dz (aD 2))))
noncomputable def dU:List D->Rs D:=fun ds=>dY (jX (aY ["cells","stride","lengths","cell"] ds))
theorem Aa(F:qg K mg "run_lengths" oG) (cO:jj P w K mg base "cell_moved" 1 2 cI):jj P w K mg base "run_lengths" 2 2 dU :=
 gB (k:=1) (g:=jX) F mR fun _ _ _ _ _ _ _ _ hr hx =>
  aM (tE 2 mR.nd)
  (aM (mF (ZP fE rfl (adD T.Lb (sv 0)) (rg 3 mR.nd) (bh (nA 2 (dH hr) (cW (Oa 2 (dH hr) (aq (bK cO hr cH (aq (sv 3) (aq (sv 1) aQ))) (aq aG aQ))) aG) (sv 3)))))
  (uH 2 (bh (bW (sv 2)))))
noncomputable def nO:aH->Rs D :=
  aD 0
noncomputable def jz:aH->Rs Bool :=
  fT (bH (vC true) (fA (ak (aD 0) (ak (aD 2) aZ)) (bD 2 dM)) (aD 1))
noncomputable def nP:aH->Rs D :=
  fA (ak (aD 0) (ak (bH zV (aD 1) (aD 0)) aZ)) gP
noncomputable def iH:aH->Ou :=
  bO (gQ 2 (fA (ak (aD 0) (ak (aD 1) aZ)) (bD 2 dU)))
  (bO (gQ 3 (dZ (aR 0) jz nO 1 [2,1] (fL (aD 0) Rk)))
  (dz (dZ (aR 0) (fun _=>.ok true) nP 1 [2] (fL (aD 3) asL))))
noncomputable def fH:List D->Rs D:=fun ds=>dY (iH (aY ["piece","stride","lengths","heads"] ds))
theorem vK(F:qg K mg "heads_of_runs" fu) (fO:jj P w K mg base "run_lengths" 2 2 dU) (dN:jj P w K mg base "cell_less" 1 2 dM):jj P w K mg base "heads_of_runs" 3 2 fH :=
 gB (k:=2) (g:=iH) F jN fun _ _ _ _ _ _ _ _ hr hx =>
  aM (gk 2 jN.nd (bK fO hr hx (aq (sv 0) (aq (sv 1) aQ))))
  (aM (rD 3 jN.nd (lN (aJ fu) ["piece","stride","lengths","heads"] (N:=["step","lengths","stride"]) (nt:=1) (caps:=[2,1]) (by decide+kernel)) rfl (by decide+kernel) (yV (sv 0)) gH (fun s₀ H₀ C ex pins B1=>rg 0 (show kg (["step","lengths","stride"]:List Str) by decide)) (fun s₀ H₀ C ex pins B1=>Ol (dH hr) (bK dN hr cH (aq (sv 0) (aq (sv 2) aQ))) (sv 1)) (fun s₀ H₀ C ex pins B1=>sv 0))
  (bh (bW (Dw (lN (aJ fu) ["piece","stride","lengths","heads"] (N:=["head","lengths"]) (nt:=1) (caps:=[2]) (by decide+kernel)) rfl (by decide+kernel) (MP (sv 3)) gH (fun s₀ H₀ C ex pins B1=>rg 0 (show kg (["head","lengths"]:List Str) by decide)) (fun s₀ H₀ C ex pins B1=>dw (aq (sv 0) (aq (KD (dH hr) (sv 1) (sv 0)) aQ)))))))
noncomputable def jA:aH->Rs D :=
  fA (ak (aD 0) (ak (bH gU (aD 1) (fC (.int 0))) aZ)) (bD 2 dM)
noncomputable def nQ:aH->Rs D :=
  aD 0
noncomputable def jB:aH->Rs Bool :=
  fT (bH gGe (HW 2 (ak (fA (ak (aD 0) (ak (aD 3) aZ)) (bD 2 cI)) (ak (fC (.int 0)) aZ))) (aD 1))
noncomputable def fY:aH->Ou :=
  gQ 4 (dZ (aR 0) jB nQ 1 [6,3,5] (fL (aD 4) asL))
noncomputable def iI:aH->Ou :=
  bO (gQ 2 (fA (ak (aD 1) aZ) (bD 1 fG)))
  (bO (gQ 3 (fA (ak (aD 0) (ak (aD 2) aZ)) (bD 2 dU)))
  (bO (gQ 4 (dZ (aR 0) (fun _=>.ok true) jA 1 [1] (fL (aD 0) Rk)))
  (bO (qw (yM (ji 2 (bQ (aR 5) (bQ (aR 6) jE))) fY (fA (ak (aD 1) (ak (aD 2) aZ)) (bD 2 fH))))
  (dz (fA (ak (aD 4) aZ) mC)))))
noncomputable def fJ:List D->Rs D:=fun ds=>dY (iI (aY ["cells","piece","stride","lengths","places","head","length"] ds))
theorem vL(F:qg K mg "places_within" fD) (kZ:jj P w K mg base "common_stride" 2 1 fG) (fO:jj P w K mg base "run_lengths" 2 2 dU) (dN:jj P w K mg base "cell_less" 1 2 dM) (cO:jj P w K mg base "cell_moved" 1 2 cI) (lg:jj P w K mg base "heads_of_runs" 3 2 fH):jj P w K mg base "places_within" 4 2 fJ :=
 gB (k:=3) (g:=iI) F cG fun _ _ _ _ _ _ _ _ hr hx =>
  aM (gk 2 cG.nd (bK kZ hr hx (aq (sv 1) aQ)))
  (aM (gk 3 cG.nd (bK fO hr hx (aq (sv 0) (aq (sv 2) aQ))))
  (aM (Zw 4 cG.nd (lN (aJ fD) ["cells","piece","stride","lengths","places","head","length"] (N:=["cell","piece"]) (nt:=1) (caps:=[1]) (by decide+kernel)) rfl (by decide+kernel) (yV (sv 0)) gH (fun s₀ H₀ C ex pins B1=>rg 0 (show kg (["cell","piece"]:List Str) by decide)) (fun s₀ H₀ C ex pins B1=>bK dN hr cH (aq (sv 0) (aq (cC (sv 1) aG) aQ))))
  (aM (mF (xU fE rfl (bK lg hr cH (aq (sv 1) (aq (sv 2) aQ))) (fQ rfl (bB (rg 5 cG.nd) (bB (rg 6 cG.nd) dh))) (bh (rD 4 cG.nd (lN (aJ fD) ["cells","piece","stride","lengths","places","head","length"] (N:=["place","length","lengths","head"]) (nt:=1) (caps:=[6,3,5]) (by decide+kernel)) rfl (by decide+kernel) (MP (sv 4)) gH (fun s₀ H₀ C ex pins B1=>rg 0 (show kg (["place","length","lengths","head"]:List Str) by decide)) (fun s₀ H₀ C ex pins B1=>aaT (ZW 2 (dH hr) (aq (bK cO hr cH (aq (sv 0) (aq (sv 3) aQ))) (aq aG aQ))) (sv 1)) (fun s₀ H₀ C ex pins B1=>sv 0)))))
  (bh (bW (ux T.rM (sv 4)))))))
noncomputable def yq:aH->Ou :=
  bO (uo (fT (bH gU (aD 0) (fC (.int 1)))) rNo wB)
  (dz (fA (ak (fA (ak (bH gU (aD 0) (fC (.int 0))) (ak (aD 1) aZ)) (bD 2 fJ)) (ak (fC (.bl false)) aZ)) gP))
noncomputable def jY:List D->Rs D:=fun ds=>dY (yq (aY ["shape","piece"] ds))
theorem WL(F:qg K mg "eaten" Et) (lu:jj P w K mg base "places_within" 4 2 fJ):jj P w K mg base "eaten" 5 2 jY :=
 gB (k:=4) (g:=yq) F WK fun _ _ _ _ _ _ _ _ hr hx =>
  aM (jr (jK (cC (sv 0) aG)) (bh afp) eU)
  (bh (bW (dw (aq (bK lu hr hx (aq (cC (sv 0) aG) (aq (sv 1) aQ))) (aq ni aQ)))))
noncomputable def gK:aH->Ou :=
  bO (Ai (fA (ak (aD 0) aZ) (bD 1 eG)))
  (Oq 2 (nD 3 (Ig (aD 3)) (bH gU (aD 0) (fC (.int 0)))) (nD 4 (nD 5 (Ww (fA (ak (aD 4) (ak (aD 5) aZ)) (bD 2 cI)) (aD 4)) (aD 1)) (bH gU (fA (ak (aD 0) (ak (aD 1) aZ)) (bD 2 jY)) (fC (.int 0)))) (zU 2 (dz (aD 2))))
noncomputable def dO:List D->Rs D:=fun ds=>dY (gK (aY ["shape","piece","holders","cell","place","step"] ds))
theorem Aq(F:qg K mg "holders_of" pL) (rN:jj P w K mg base "eaten" 5 2 jY) (cO:jj P w K mg base "cell_moved" 1 2 cI) (mU:jj P w K mg base "check_finite" 1 1 eG):jj P w K mg base "holders_of" 6 2 dO :=
 gB (k:=5) (g:=gK) F gZ fun _ _ _ _ _ _ _ _ hr hx =>
  aM (TF (bK mU hr hx (aq (sv 0) aQ)))
  (aal 2 gZ.nd (Es 2 3 fE rfl gZ.nd (cC (sv 0) aG) (adL 2 (dH hr) (sv 3))) (Es 2 4 fE rfl gZ.nd (cC (bK rN hr cH (aq (sv 0) (aq (sv 1) aQ))) aG) (Es 2 5 fE rfl gZ.nd (sv 1) (adM 2 (dH hr) (bK cO hr cH (aq (sv 4) (aq (sv 5) aQ))) (sv 4)))) (uH 2 (bh (bW (sv 2)))))
noncomputable def Cu:aH->Rs D :=
  aD 0
noncomputable def vM:aH->Rs Bool :=
  fT (bH yR (bH zV (aD 1) (aD 0)) (fA aZ wO))
noncomputable def rO:aH->Ou :=
  bO (gQ 2 (fA (ak (aD 0) (ak (aD 1) aZ)) (bD 2 dO)))
  (bO (gQ 3 (dZ (aR 0) vM Cu 1 [2] (fL (bH gU (aD 0) (fC (.int 0))) Rk)))
  (bO (uo (fT (bH gGt (fA (ak (aD 3) aZ) vd) (fC (.int 0)))) (dz (fA (ak (fC (.str "bare")) (ak (bH gU (aD 3) (fC (.int 0))) aZ)) gP)) wB)
  (dz (fA (ak (fC (.str "marks")) (ak (bH gU (fA (ak (aD 0) (ak (aD 1) aZ)) (bD 2 jY)) (fC (.int 0))) aZ)) gP))))
noncomputable def lU:List D->Rs D:=fun ds=>dY (rO (aY ["shape","piece","holders","bare"] ds))
theorem WM(F:qg K mg "marks" yj) (pO:jj P w K mg base "holders_of" 6 2 dO) (rN:jj P w K mg base "eaten" 5 2 jY):jj P w K mg base "marks" 7 2 lU :=
 gB (k:=6) (g:=rO) F zY fun _ _ _ _ _ _ _ _ hr hx =>
  aM (gk 2 zY.nd (bK pO hr hx (aq (sv 0) (aq (sv 1) aQ))))
  (aM (rD 3 zY.nd (lN (aJ yj) ["shape","piece","holders","bare"] (N:=["cell","holders"]) (nt:=1) (caps:=[2]) (by decide+kernel)) rfl (by decide+kernel) (yV (cC (sv 0) aG)) gH (fun s₀ H₀ C ex pins B1=>rg 0 (show kg (["cell","holders"]:List Str) by decide)) (fun s₀ H₀ C ex pins B1=>Gs (dH hr) (KD (dH hr) (sv 1) (sv 0)) (uZ aQ)) (fun s₀ H₀ C ex pins B1=>sv 0))
  (aM (jr (aaS (yL T.Ii (sv 3)) aG) (bh (bW (dw (aq yD (aq (cC (sv 3) aG) aQ))))) eU)
  (bh (bW (dw (aq yD (aq (cC (bK rN hr hx (aq (sv 0) (aq (sv 1) aQ))) aG) aQ)))))))
noncomputable def jC:aH->Ou :=
  bO (gQ 2 (fC .non))
  (bO (Qg nG 3 (Ai (fA (ak (aD 0) (ak (aD 1) aZ)) (bD 2 lU))) (gQ 2 (aD 3)))
  (bO (uo (fT (fB (aD 2) (yX J_0))) (dz (fC (.bl false))) wB)
  (dz (pW (fB (aD 2) (yX J_1)) (fB (aD 2) (yX J_2))))))
noncomputable def gF:List D->Rs D:=fun ds=>dY (jC (aY ["shape","piece","kind","e"] ds))
theorem wZ(F:qg K mg "_law_endless" mO) (rP:jj P w K mg base "marks" 7 2 lU):jj P w K mg base "_law_endless" 8 2 gF :=
 gB (k:=7) (g:=jC) F iB fun _ _ _ _ _ _ _ _ hr hx =>
  aM (gk 2 iB.nd Jx)
  (aM (acG (m:=nG) (i:=3) rfl rfl rfl iB.nd rfl rfl rfl T.Ij T.nG (fun E1 pl W1 hpv=>bh (TF (bK rP hr (uf hpv rfl) (aq (sv 0) (aq (sv 1) aQ))))) (fun ea=>bh (gk 2 iB.nd (sv 3))))
  (aM (jr (jK (Zi (m:=J_0) T.j_0 T.bV (sv 2) (lM T.QH (lM T.QJ (lM T.Ld (lM T.QK (lM T.Wz (lM T.QL (lM T.WD (lM T.QM (lM T.QS acL))))))))))) (bh (bW ni)) eU)
  (bh (bW (uY (acK (m:=J_1) T.j_1 T.bV T.Cr (sv 2)) (yJ (Zh (m:=J_2) T.j_2 T.bV T.Eu (sv 2) PyProof.Rows.Boot.«ValueError»)))))))
noncomputable def wH:aH->Ou :=
  dz (fA (ak (bH nY (bH gU (aD 0) (fC (.int 0))) (bH gU (aD 1) (fC (.int 0)))) (ak (bH nY (bH gU (aD 0) (fC (.int 1))) (bH gU (aD 1) (fC (.int 1)))) aZ)) gP)
noncomputable def jh:List D->Rs D:=fun ds=>dY (wH (aY ["cell","step"] ds))
theorem Fo(F:qg K mg "_law_less" qO) :jj P w K mg base "_law_less" 1 2 jh :=
 gB (k:=0) (g:=wH) F Fb fun _ _ _ _ _ _ _ _ hr hx =>
  bh (bW (dw (aq (jo (cC (sv 0) aG) (cC (sv 1) aG)) (aq (jo (cC (sv 0) aG) (cC (sv 1) aG)) aQ))))
noncomputable def Ab:aH->Ou :=
  dz (fA (ak (bH cM (bH gU (aD 0) (fC (.int 0))) (bH gU (aD 1) (fC (.int 0)))) (ak (bH cM (bH gU (aD 0) (fC (.int 1))) (bH gU (aD 1) (fC (.int 1)))) aZ)) gP)
noncomputable def iT:List D->Rs D:=fun ds=>dY (Ab (aY ["cell","step"] ds))
theorem Il(F:qg K mg "_law_led" tM) :jj P w K mg base "_law_led" 1 2 iT :=
 gB (k:=0) (g:=Ab) F Ik fun _ _ _ _ _ _ _ _ hr hx =>
  bh (bW (dw (aq (cW (cC (sv 0) aG) (cC (sv 1) aG)) (aq (cW (cC (sv 0) aG) (cC (sv 1) aG)) aQ))))
noncomputable def jO:aH->Ou :=
  nu 2 (fC (.bl true)) (aD 3)
noncomputable def jP:aH->Rs D :=
  bH (vC false) (fA (ak (aD 2) (ak (aD 0) aZ)) (bD 2 iT)) (aD 1)
noncomputable def gM:aH->Ou :=
  bO (gQ 5 (fA (ak (aD 3) (ak (bH gU (aD 1) (fC (.int 0))) aZ)) (bD 2 jh)))
  (uo (fT (fA (ak (dZ (aR 0) (fun _=>.ok true) jP 1 [2,5] (fL (aD 1) Rk)) aZ) Du)) (JV 4 (aD 5)) wB)
noncomputable def iJ:aH->Ou :=
  bO (Hx 2)
  (bO (qw (yN (aR 3) jO (aD 0)))
  (bO (Va 4 aZ)
  (zU 2 (bO (qw (yN (aR 3) gM (aD 0)))
  (Vb 4 (dz (aD 4)))))))
noncomputable def fK:List D->Rs D:=fun ds=>dY (iJ (aY ["cells","piece","held","cell","found","place"] ds))
theorem vN(F:qg K mg "_law_greatest" iz) (qR:jj P w K mg base "_law_less" 1 2 jh) (jQ:jj P w K mg base "_law_led" 1 2 iT):jj P w K mg base "_law_greatest" 2 2 fK :=
 gB (k:=1) (g:=iJ) F cU fun _ _ _ _ _ _ _ _ hr hx =>
  aM (tE 2 cU.nd)
  (aM (mF (xV fE rfl (sv 0) (rg 3 cU.nd) (bh (nA 2 (dH hr) ni (sv 3)))))
  (aM (acZ 4 cU.nd aQ)
  (uH 2 (aM (mF (xV fE rfl (sv 0) (rg 3 cU.nd) (aM (gk 5 cU.nd (bK qR hr cH (aq (sv 3) (aq (cC (sv 1) aG) aQ))))
  (bh (jr (jK (TQ rfl T.abl (Dw (lN (aJ iz) ["cells","piece","held","cell","found","place"] (N:=["step","held","place"]) (nt:=1) (caps:=[2,5]) (by decide+kernel)) rfl (by decide+kernel) (yV (sv 1)) gH (fun s₀ H₀ C ex pins B1=>rg 0 (show kg (["step","held","place"]:List Str) by decide)) (fun s₀ H₀ C ex pins B1=>adB (dH hr) (bK jQ hr cH (aq (sv 2) (aq (sv 0) aQ))) (sv 1))))) (bh (ada 4 (sv 5))) eU)))))
  (adb 4 (bh (bW (sv 4))))))))
noncomputable def lC:aH->Ou :=
  nu 2 (fC (.bl true)) (fA (ak (aD 3) (ak (aD 4) aZ)) (bD 2 iT))
noncomputable def lD:aH->Ou :=
  yN (aR 4) lC (aD 1)
noncomputable def jD:aH->Ou :=
  bO (Hx 2)
  (bO (qw (yM (aR 3) lD (aD 0)))
  (dz (oE 2)))
noncomputable def gG:List D->Rs D:=fun ds=>dY (jD (aY ["found","piece","cells","mark","step"] ds))
theorem xg(F:qg K mg "_law_brought" mQ) (jQ:jj P w K mg base "_law_led" 1 2 iT):jj P w K mg base "_law_brought" 2 2 gG :=
 gB (k:=1) (g:=jD) F iC fun _ _ _ _ _ _ _ _ hr hx =>
  aM (tE 2 iC.nd)
  (aM (mF (xU fE rfl (sv 0) (rg 3 iC.nd) (bh (xV fE rfl (sv 1) (rg 4 iC.nd) (bh (nA 2 (dH hr) ni (bK jQ hr cH (aq (sv 3) (aq (sv 4) aQ)))))))))
  (bh (bW (zP 2 rfl T.uJ))))
noncomputable def qT:aH->Ou :=
  nu 3 (fC (.bl true)) (aD 4)
noncomputable def wI:aH->Rs D :=
  aD 0
noncomputable def qU:aH->Rs Bool :=
  fT (bH (vC true) (aD 0) (aD 1))
noncomputable def pP:aH->Ou :=
  bO (gQ 2 (fA (ak (aD 0) (ak (aD 1) aZ)) (bD 2 fK)))
  (bO (Hx 3)
  (bO (qw (yM (aR 4) qT (fA (ak (aD 2) (ak (aD 1) aZ)) (bD 2 gG))))
  (zU 3 (bO (gQ 5 (dZ (aR 0) qU wI 1 [3] (fL (aD 0) Rk)))
  (bO (uo (fT (bH Zd (aD 5) (fA aZ wO))) (dz (fA (ak (fC (.str "bare")) (ak (fA (ak (aD 5) aZ) Ca) aZ)) gP)) wB)
  (dz (fA (ak (fC (.str "marks")) (ak (fA (ak (fA (ak (aD 2) aZ) vp) aZ) mC) aZ)) gP)))))))
noncomputable def mV:List D->Rs D:=fun ds=>dY (pP (aY ["cells","piece","found","brought","cell","bare"] ds))
theorem Im(F:qg K mg "_law_due" pN) (lE:jj P w K mg base "_law_greatest" 2 2 fK) (mW:jj P w K mg base "_law_brought" 2 2 gG):jj P w K mg base "_law_due" 3 2 mV :=
 gB (k:=2) (g:=pP) F kY fun _ _ _ _ _ _ _ _ hr hx =>
  aM (gk 2 kY.nd (bK lE hr hx (aq (sv 0) (aq (sv 1) aQ))))
  (aM (tE 3 kY.nd)
  (aM (mF (xU fE rfl (bK mW hr cH (aq (sv 2) (aq (sv 1) aQ))) (rg 4 kY.nd) (bh (nA 3 (dH hr) ni (sv 4)))))
  (uH 3 (aM (rD 5 kY.nd (lN (aJ pN) ["cells","piece","found","brought","cell","bare"] (N:=["cell","brought"]) (nt:=1) (caps:=[3]) (by decide+kernel)) rfl (by decide+kernel) (yV (sv 0)) gH (fun s₀ H₀ C ex pins B1=>rg 0 (show kg (["cell","brought"]:List Str) by decide)) (fun s₀ H₀ C ex pins B1=>Ol (dH hr) (sv 0) (sv 1)) (fun s₀ H₀ C ex pins B1=>sv 0))
  (aM (jr (afh (dH hr) (sv 5) (uZ aQ)) (bh (bW (dw (aq yD (aq (ZM rfl (dH hr) T.Wy (sv 5)) aQ))))) eU)
  (bh (bW (dw (aq yD (aq (ux T.rM (Vi T.uJ (sv 2))) aQ))))))))))
noncomputable def yr:aH->Ou :=
  bO (lK (fA (ak (fA (ak (aD 3) (ak (fC (.int 2)) aZ)) (bD 2 dJ)) (ak (aD 1) (ak (fC (.int 6)) aZ))) (bD 3 iw)) (ji 2 (bQ (aR 4) (bQ (aR 2) jE))))
  (bO (uo (wN (fT (bH yR (bH oM (aD 2) (fC (.int 6))) (fC (.int 1)))) (yI (fT (fA (ak (fA (ak (aD 4) (ak (fC (.bl true)) aZ)) gP) (ak (aD 1) aZ)) (bD 2 gF))))) (dz (fC (.bl false))) wB)
  (uo (yI (fT (fA (ak (fA (ak (fA (ak (aD 4) (ak (fC (.bl false)) aZ)) gP) (ak (aD 1) aZ)) (bD 2 lU)) (ak (fA (ak (aD 4) (ak (aD 1) aZ)) (bD 2 mV)) aZ)) (bD 2 (bN 4))))) (dz (fC (.bl false))) wB))
noncomputable def Ot:aH->Ou :=
  bO (lK (fA (ak (fA (ak (fA (ak (aD 0) (ak (fC (.int 0)) aZ)) (bD 2 eH)) (ak (fC (.int 1)) aZ)) (bD 2 dJ)) aZ) (bD 1 jw)) (ji 2 (bQ (aR 1) (bQ (aR 2) jE))))
  (bO (qw (yM (aR 3) yr (bH cM (fA (ak (fA (ak (aD 0) (ak (fC (.int 1)) aZ)) (bD 2 eH)) aZ) wO) (fSl (aD 0) (fP (fC (.int 2))) (fP (fC (.int 22)))))))
  (dz (fC (.bl true))))
noncomputable def Ov:List D->Rs D:=fun ds=>dY (Ot (aY ["script","piece","number","cell","cells"] ds))
theorem afZ{f:ae}(pQ:jj P w K mg base "_law_piece" 1 1 jw) (nR:jj P w K mg base "_law_deal" 1 2 dJ) (nU:jj P w K mg base "_law_cell" 1 2 eH) (oH:jj P w K mg base "_law_marked" 2 3 iw) (mX:jj P w K mg base "_law_endless" 8 2 gF) (qW:jj P w K mg base "_law_same" 5 2 (bN 4)) (tQ:jj P w K mg base "_law_due" 3 2 mV) (rP:jj P w K mg base "marks" 7 2 lU) {cdv:aa}{A:aI}{outer:List Env}{s:af}{H:Hp}{E:XK}{B:Bs}(hr:lH 8 (A.deeper (mT "law" (aJ pY) s.heap.objs.size f cdv)))
  (hx:sH (rQ (Bk P w K) P w K mg base ["script","piece","number","cell","cells"] "law" (aJ pY) f cdv A outer s H E) (fun c n _ H'=>E (xW c n) none H')) :
  rA (rQ (Bk P w K) P w K mg base ["script","piece","number","cell","cells"] "law" (aJ pY) f cdv A outer s H E) B (fun c n _ H'=>E (xW c n) none H') (cB pY) Ot :=
  aM (gR (bK pQ hr hx (aq (bK nR hr hx (aq (bK nU hr hx (aq (sv 0) (aq aG aQ))) (aq aG aQ))) aQ)) (fQ rfl (bB (rg 1 vI.nd) (bB (rg 2 vI.nd) dh))))
  (aM (mF (xU fE rfl (cW (uZ (aq (bK nU hr cH (aq (sv 0) (aq aG aQ))) aQ)) (Sx (sv 0) (Mv aG) (Mv aG))) (rg 3 vI.nd) (aM (gR (bK oH hr cH (aq (bK nR hr cH (aq (sv 3) (aq aG aQ))) (aq (sv 1) (aq aG aQ)))) (fQ rfl (bB (rg 4 vI.nd) (bB (rg 2 vI.nd) dh))))
  (aM (jr (Yz (Jz (Gs (dH hr) (qp (sv 2) aG) aG) (Df (Dg (jK (bK mX hr cH (aq (dw (aq (sv 4) (aq ni aQ))) (aq (sv 1) aQ)))))))) (bh (bW ni)) eU)
  (bh (jr (Dg (jK (bK qW hr cH (aq (bK rP hr cH (aq (dw (aq (sv 4) (aq ni aQ))) (aq (sv 1) aQ))) (aq (bK tQ hr cH (aq (sv 4) (aq (sv 1) aQ))) aQ))))) (bh (bW ni)) eU))))))
  (bh (bW ni)))
end
section
variable{l:mI}{w:az}{K:cS}{h:Heap}{mg:Str->Option aa}{fa:ae}{cA cg iV iW gC iY kJ iZ kO jc:ae}{jd:ae}
 {lF jR oY:ae}{vO vP:Option ae}{vQ:Array (Option aa)}{vR vU vV vW vX:aa}
 {WQ:ae}{adO WR:Option ae}{adP:Array (Option aa)}{adQ WT WW WX Le WY:aa}
theorem all_mk(X:K.In h) (G:h.Ns bu mg) (hfa:mg "law"=some (.ref fa))
  (fM:cf K bu "Endless"=some (some (.ref cA)))
  (vH:excIn K cA [.type "ValueError",.type "Exception",.type "BaseException",.type "object"] "ValueError.__new__"=true)
  (kW:cf K bu "MossError"=some (some (.ref cg)))
  (wF:excIn K cg [.type "ValueError",.type "Exception",.type "BaseException",.type "object"] "ValueError.__new__"=true)
  (QT:cf K bu "BadCell"=some (some (.ref iV)))
  (QV:cf K bu "BadDeed"=some (some (.ref iW)))
  (Lf:cf K bu "BadPiece"=some (some (.ref gC)))
  (QW:cf K bu "BadTurn"=some (some (.ref iY)))
  (Xa:cf K bu "NoCell"=some (some (.ref kJ)))
  (QX:cf K bu "NoMarks"=some (some (.ref iZ)))
  (Xb:cf K bu "NoText"=some (some (.ref kO)))
  (QZ:cf K bu "TooMany"=some (some (.ref jc)))
  (Ra:cf K bu "TooWide"=some (some (.ref jd)))
  (vY:Nb K cA=true)
  (Io:kitAny K (.ref cA) (List.map aa.ref [iV,iW,gC,iY,kJ,iZ,kO,jc,jd])=some false)
  (Ip:gr K (.ref cA) (.ref cA)=some true)
  (Ir:gr K (.ref cA) (.type "ValueError")=some true)
  (qd:exmOne K (.ref cg) (.ref cg)=some true)
  (lG:exmOne K (.ref cA) (.ref cg)=some true)
  (Fp:Dn K "_law_piece" pJ)
  (Iu:Dn K "_law_deal" qJ)
  (Iv:Dn K "_law_base" qK)
  (Iw:Dn K "_law_kept" qL)
  (Av:Dn K "_law_marked" oF)
  (Iz:Dn K "_law_cell" qM)
  (IK:Dn K "_law_same" nF)
  (Ac:Dn K "check_finite" mL)
  (IV:Dn K "cell_less" qN)
  (xq:cf K bu "common_stride"=some (some (.ref lF)))
  (xr:K.lookup lF=some ⟨vR,vO,.func (fnOf "common_stride" "common_stride" (dg cF) (cB cF) (aJ cF) .none vU vV vW vP (.ref jR) vX),vQ⟩)
  (xu:codeIn K (.ref jR) "common_stride"=true)
  (xG:keepIn K (.ref lF)=true)
  (xH:iP K jR oY=true)
  (Fq:Dn K "cell_moved" pK)
  (Aw:Dn K "run_lengths" oG)
  (xJ:Dn K "heads_of_runs" fu)
  (xK:Dn K "places_within" fD)
  (aam:Dn K "eaten" Et)
  (Ft:Dn K "holders_of" pL)
  (aan:Dn K "marks" yj)
  (Ad:Dn K "_law_endless" mO)
  (IW:Dn K "_law_less" qO)
  (Lg:Dn K "_law_led" tM)
  (xM:Dn K "_law_greatest" iz)
  (Ae:Dn K "_law_brought" mQ)
  (Lh:Dn K "_law_due" pN)
  (aga:cf K bu "law"=some (some (.ref WQ)))
  (agb:K.lookup WQ=some ⟨adQ,adO,.func (fnOf "law" "law" (dg pY) (cB pY) (aJ pY) .none WT WW WX WR Le WY),adP⟩)
  (agc:codeIn K Le "law"=true)
  (agd:keepIn K (.ref WQ)=true)
  (Fv:cf K bu "ValueError"=some none)
  (agf:cf K bu "all"=some none)
  (adR:cf K bu "bool"=some none)
  (Xc:cf K bu "divmod"=some none)
  (agg:cf K bu "int"=some none)
  (Fw:cf K bu "isinstance"=some none)
  (agh:cf K bu "len"=some none)
  (adS:cf K bu "list"=some none)
  (agi:cf K bu "max"=some none)
  (agj:cf K bu "min"=some none)
  (aao:cf K bu "range"=some none)
  (Li:cf K bu "reversed"=some none)
  (Xd:cf K bu "sorted"=some none)
  (agk:cf K bu "str"=some none)
  (aap:cf K bu "tuple"=some none)
  (agl:cf K bu "zip"=some none) :
  ∃fd:dq,(∀(s:af) (v:aa),ki s fd ⟨[v],[]⟩ [("script",v)])/\∀base:Heap,K.In base->base.Ns bu mg->Gb l.prog w K mg base (Bk l.prog w K) 9 fa fd ["script"] (YK K 1 Ov):=by
 have e:=hfa.symm.trans (gy X G aga);cases e;have xO:=aai (st:=cF) (q:="common_stride.<locals>.<lambda>") xr xu xG xH rfl rfl;have agm:=RT (st:=pY) agb agc agd;refine⟨fnOf "law" "law" (dg pY) (cB pY) (aJ pY) .none WT WW WX WR Le WY,fun s v=>.of_eq rfl,fun base _ _=>?_⟩;have T:Txt l.prog w base K mg cA cg iV iW gC iY kJ iZ kO jc jd:=⟨fF X G Fv,
  fF X G agf,
  fF X G adR,
  fF X G Xc,
  fF X G agg,
  fF X G Fw,
  fF X G agh,
  fF X G adS,
  fF X G agi,
  fF X G agj,
  fF X G aao,
  fF X G Li,
  fF X G Xd,
  fF X G agk,
  fF X G aap,
  fF X G agl,
  gy X G fM,
  fM,
  vH,
  (fun c C hc hC=>(by simp only[Cq,kA,beq_iff_eq,or_assoc]at hc;exact(fun z=>by subst z;rw[fM]at hC;cases hC;exact Gy _) hc)),
  gy X G kW,
  kW,
  wF,
  (fun c C hc hC=>(by simp only[kI,kA,beq_iff_eq,or_assoc]at hc;exact(fun z=>z.elim (fun z=>by subst z;rw[kW]at hC;cases hC;exact Gy _) (fun z=>by subst z;rw[fM]at hC;cases hC;exact Qk lG)) hc)),
  (fun c C hc hC=>(by simp only[kI,kA,beq_iff_eq,or_assoc]at hc;exact(fun z=>z.elim (fun z=>by subst z;rw[kW]at hC;cases hC;exact qd) (fun z=>by subst z;rw[fM]at hC;cases hC;exact lG)) hc)),
  gy X G QT,
  gy X G QV,
  gy X G Lf,
  gy X G QW,
  gy X G Xa,
  gy X G QX,
  gy X G Xb,
  gy X G QZ,
  gy X G Ra,
  (yW fM ⟨vY,Io⟩ Dv),
  (yW fM ⟨vY,Ip⟩ Dv),
  (yW fM ⟨vY,Ir⟩ Dv)⟩
 have pQ:=Am T (Fp.ent X G);have nR:=Fd T (Iu.ent X G);have qP:=Fe T (Iv.ent X G);have nM:=Fg T (Iw.ent X G);have oH:=zZ T (Av.ent X G) qP nM;have nU:=Fi T (Iz.ent X G);have qW:=Fj T (IK.ent X G)  4;have mU:=wY T (Ac.ent X G);have dN:=Fl T (IV.ent X G);have kZ:=vJ T xO (gy X G xq) dN;have cO:=Ao T (Fq.ent X G);have fO:=Aa T (Aw.ent X G) cO;have lg:=vK T (xJ.ent X G) fO dN;have lu:=vL T (xK.ent X G) kZ fO dN cO lg;have rN:=WL T (aam.ent X G) lu;have pO:=Aq T (Ft.ent X G) rN cO mU;have rP:=WM T (aan.ent X G) pO rN;have mX:=wZ T (Ad.ent X G) rP;have qR:=Fo T (IW.ent X G);have jQ:=Il T (Lg.ent X G);have lE:=vN T (xM.ent X G) qR jQ;have mW:=xg T (Ae.ent X G) jQ;have tQ:=Im T (Lh.ent X G) lE mW;exact aeY agm vI fun cdv A outer s H E B hr=>afZ T pQ nR nU oH mX qW tQ rP hr (uf rB rfl)
end
theorem pR(a b:List Int)(ha:Pair a)(hb:Pair b):dM [aj a,aj b]=.ok (aj (mi a b)):=by obtain⟨x,y,rfl⟩:=ha;obtain⟨z,w,rfl⟩:=hb;kernel_rfl
theorem oJ(a b:List Int)(ha:Pair a)(hb:Pair b):cI [aj a,aj b]=.ok (aj (ad a b)):=by obtain⟨x,y,rfl⟩:=ha;obtain⟨z,w,rfl⟩:=hb;kernel_rfl
theorem Xe{ρ:aH}{j:Nat}{kvs:List (List Int×D)}{ks:List Int}{w:D}{fs:aH->Rs (List D)}(hj:ρ[j]?=some (.od kvs))(hf:fs ρ=.ok [aj ks,w]):zN j fs ρ=.ok ((bT kvs ks).getD w):=by unfold zN;rw[hj];dsimp only;rw[hf];simp only[Cd,iU]
theorem adT{ρ:aH}{j:Nat}{kvs:List (List Int×D)}{ks:List Int}{w:D}{fs:aH->Rs (List D)}(hj:ρ[j]?=some (.fz (cZ kvs)))(hf:fs ρ=.ok [aj ks,w]):HW j fs ρ=.ok ((bT kvs ks).getD w):=by unfold HW;rw[hj];dsimp only;rw[hf];simp only[Cd,iU,uG]
theorem Xf{kvs:List (List Int×D)}{ks:List Int}{d:D}(h:bT kvs ks=some d):zV (cZ kvs) (aj ks)=.ok d:=by unfold zV;dsimp only;rw[iU];dsimp only;rw[uG,h]
theorem Xg{kvs:List (List Int×D)}{ks:List Int}:vC true (aj ks) (cZ kvs)=.ok (.bl (!(bT kvs ks).isSome)):=by unfold vC;dsimp only;rw[iU];dsimp only;rw[uG];rfl
theorem Xh{L:KL}{j:Nat}{x:List Int}(h:L[j]?=some x):gU (.tup (L.map aj)) (.int j)=.ok (aj x):=ahG (Yq (by rw[cK,h];rfl))
noncomputable def SM(kvs:List (List Int×D)):Prop:=∀x,(∀d,bT kvs x=some d->∃n:Int,d=.int n)/\(x∈kvs.map (·.1)->Pair x/\Up x)
theorem adU{kvs:List (List Int×D)}{k:List Int}{n:Int}(h:SM kvs)(hk:Pair k)(hu:Up k):SM (ju kvs k (.int n)):=fun x=>by
 refine⟨fun d e=>?_,fun e=>?_⟩
 ·rw[Er]at e;by_cases c:x=k
  ·rw[if_pos c]at e;cases e;exact⟨_,rfl⟩
  ·rw[if_neg c]at e;exact(h x).1 d e
 ·rcases(uD _ _ _ _).mp e with rfl|e
  ·exact⟨hk,hu⟩
  ·exact(h x).2 e
theorem adV{kvs:List (List Int×D)}(h:SM kvs)(x:List Int):∃n:Int,(bT kvs x).getD (.int 0)=.int n:=by
 cases e:bT kvs x with
 |none=>exact⟨0,rfl⟩
 |some d=>obtain⟨n,rfl⟩:=(h x).1 d e;exact⟨n,rfl⟩
theorem Ja{O:KL}(hO:gW O){kvs:List (List Int×D)}{j:Nat}{a3:Sl}(hj:1 + j < O.length)(h:SM kvs)(hl:kvs.length<=1000000) :
  ∃kvs' b3,fX [.fz (.tup (O.map aj)),.od kvs,.fz (.int (1 + (j:Int))),a3]=.nx [.fz (.tup (O.map aj)),.od kvs',.fz (.int (1 + (j:Int))),b3]/\SM kvs'/\kvs'.length<=kvs.length + 1:=by
 have hj0:j < O.length:=by lia
 have hb:O[1 + j]?=some O[1 + j]:=du hj;have ha:O[j]?=some O[j]:=du hj0;have pb:=hO.pr _ (j7 hj);have pa:=hO.pr _ (j7 hj0);have lt:vG O[j] O[1 + j]:=ng.mp hO.pw j (1 + j) hj0 hj (by lia);generalize O[1 + j]=b at hb pb lt;generalize O[j]=a at ha pa lt;have up:Up (mi b a):=by
  unfold vG at lt;show 0 < c0 b - c0 a∨(0=c0 b - c0 a/\0 < c1 b - c1 a)
  lia
 obtain⟨n,en⟩:=adV h (mi b a);refine⟨ju kvs (mi b a) (.int (n + 1)),.fz (aj (mi b a)),?_,adU h (uF _ _) up,rH _ _ _⟩;unfold fX;have e1:(fA (ak (bH gU (aD 0) (aD 2)) (ak (bH gU (aD 0) (bH Vl.nY (aD 2) (fC (.int 1)))) aZ)) (bD 2 dM)) [.fz (.tup (O.map aj)),.od kvs,.fz (.int (1 + (j:Int))),a3]=.ok (aj (mi b a)):=by refine cQ (ao (bC (au rfl) (au rfl) (Xh (j:=1 + j) hb)) (ao (bC (au rfl) (bC (au rfl) cu nq) ?_) aU)) (bU rfl (pR _ _ pb pa));rw[show(1 + (j:Int) - 1)=(j:Int) by lia];exact Xh ha
 refine aX (kj e1) ?_;refine uE (kvs:=kvs) (ks:=mi b a) (bC (Xe (kvs:=kvs) rfl (ao (au rfl) (ao cu aU))) cu ?_) rfl (au rfl) hl;rw[en];exact jL
theorem wJ{O:KL}(hO:gW O):∀(l:List Nat) (kvs:List (List Int×D)) (a2 a3:Sl),(∀j∈l,1 + j < O.length)->SM kvs->kvs.length + l.length<=1000 ->
  ∃kvs' b2 b3,fU (aR 2) fX (l.map fun(i:Nat)=>.int (1 + (i:Int))) [.fz (.tup (O.map aj)),.od kvs,a2,a3]=.nx [.fz (.tup (O.map aj)),.od kvs',b2,b3]/\SM kvs'/\kvs'.length<=kvs.length + l.length
 | [],kvs,a2,a3,_,h,_=>⟨kvs,a2,a3,rfl,h,bz _⟩
 |j::l,kvs,a2,a3,hj,h,hl=>by simp only[cq]at hl;obtain⟨k1,b3,e1,h1,l1⟩:=Ja hO (j:=j) (a3:=a3) (hj j (.head _)) h (by lia);obtain⟨k2,c2,c3,e2,h2,l2⟩:=wJ hO l k1 (.fz (.int (1 + (j:Int)))) b3 (fun i hi=>hj i (.tail _ hi)) h1 (by lia);refine⟨k2,c2,c3,?_,h2,by simp only[cq];lia⟩;simp only[cb,fU,aR,h_,gS,e1];exact e2
theorem Ow{kvs all:List (List Int×D)}{ρ:aH}(hr:ρ[1]?=some (.fz (cZ all)))(h:SM all):∀{L:KL},(∀x∈L,x∈all.map (·.1))->∃ks,qI (bH zV (aD 1) (aD 0)) [1] ρ (L.map aj)=.ok ks
 | [],_=>⟨[],rfl⟩
 |x::L,hx=>by
  obtain⟨ks,e⟩:=Ow (kvs:=kvs) hr h (L:=L) fun y hy=>hx y (.tail _ hy);have:(bT all x).isSome=true:=by rw[mK];exact decide_eq_true (hx x (.head _))
  cases g:bT all x with
  |none=>rw[g]at this;cases this
  |some d =>
   obtain⟨n,rfl⟩:=(h x).1 d g;have st:jW (aj x) [1] ρ=[.fz (aj x),.fz (cZ all)]:=by simp only[jW,cb,j4,hr]
   refine⟨n::ks,?_⟩;simp only[cb,qI,st];rw[show(bH zV (aD 1) (aD 0)) [.fz (aj x),.fz (cZ all)]=.ok (.int n) from bC (au rfl) (au rfl) (Xf g)];simp only[e,Cd]
theorem aaq{h:Tg}{g:aH->Ou}{ρ:aH}{r:Ou}{m:Int}{N:Nat}{fs:aH->Rs (List D)}(h1:fs ρ=.ok [.int m,.int (m + (N:Int))])(h0:0<=m)(hm:m < 1000000)(hN:N < 1000000)(h2:fU h g ((cz N).map fun(i:Nat)=>.int (m + i)) ρ=r):yO h g fs ρ=r:=by
 have hc:-(2 ^ 62)<=m/\m < 2 ^ 62/\-(2 ^ 62)<=m + (N:Int)/\m + (N:Int) < 2 ^ 62:=by lia
 unfold yO;rw[h1];simp only[oR];rw[if_pos hc,show(m + (N:Int) - m).toNat=N by lia];exact h2
theorem Xi{O:KL}(hO:gW O)(ho:O.length<=900)(hne:O≠[]):∃st,fG [.tup (O.map aj)]=.ok (aj st)/\Pair st/\Up st:=by
 obtain⟨kvs,b2,b3,e,h,l⟩:=wJ hO (cz (O.length - 1)) [] .no .no (fun j hj=>by have:=iS.mp hj;lia) (fun x=>⟨fun d z=>(by cases z),fun z=>(by cases z)⟩) (by simp;lia);rw[ke,eI]at l;obtain⟨ks,ek⟩:=Ow (kvs:=kvs) (ρ:=[.fz (.tup (O.map aj)),.fz (cZ kvs),b2,b3]) rfl h (L:=kvs.map (·.1)) fun x hx=>hx;have ais:∃st,HY [1] (fB (aD 1) tK) (bH zV (aD 1) (aD 0)) (fA (ak (fC (.int 0)) (ak (fC (.int 1)) aZ)) gP) [.fz (.tup (O.map aj)),.fz (cZ kvs),b2,b3]=.ok (aj st)/\Pair st/\Up st:=by
  unfold HY;rw[show(fB (aD 1) tK) [.fz (.tup (O.map aj)),.fz (cZ kvs),b2,b3]=.ok (.lst ((kvs.map (·.1)).map aj)) from Gz (au rfl) (by unfold tK;dsimp only;rw[if_pos (by rw[cx];lia)])];dsimp only;rw[show(fA (ak (fC (.int 0)) (ak (fC (.int 1)) aZ)) gP) [.fz (.tup (O.map aj)),.fz (cZ kvs),b2,b3]=.ok (aj [0,1]) from cQ (ao cu (ao cu aU)) (t2 _ _)];dsimp only;rw[ek];dsimp only;rw[cK];cases g:(kvs.map (·.1))[HX ks]? with
  |none=>exact⟨[0,1],rfl,⟨_,_,rfl⟩,.inr ⟨rfl,by decide⟩⟩
  |some x =>
   have:=(h x).2 (mv g);exact⟨x,rfl,this.1,this.2⟩
 obtain⟨st,e2,p,u⟩:=ais;refine⟨st,?_,p,u⟩;have run:iD (aY ["piece","met","place","stride"] [.tup (O.map aj)])=.rt (aj st):=by
  unfold iD;refine aX (ρ1:=[.fz (.tup (O.map aj)),.od [],.no,.no]) rfl (aX (sI (ρ1:=[.fz (.tup (O.map aj)),.od kvs,b2,b3]) ?_) ?_)
  ·refine aaq (m:=1) (N:=O.length - 1) (ao cu (ao (cQ (ao (au rfl) aU) (show vd [.tup (O.map aj)]=.ok (.int (1 + ((O.length - 1:Nat):Int))) from ?_)) aU)) (by decide) (by lia) (by lia) e;rw[vq,cx];congr 2;have:=w_.mpr hne;lia
  ·show dz _ (QB 1 [.fz (.tup (O.map aj)),.od kvs,b2,b3])=_;rw[show QB 1 [.fz (.tup (O.map aj)),.od kvs,b2,b3]=[.fz (.tup (O.map aj)),.fz (cZ kvs),b2,b3] from rfl];exact gO e2
 unfold fG;rw[run];rfl
theorem Cv{A:KL}{st:List Int}(hs:Pair st)(hu:Up st):∀(R S:KL) (kvs:List (List Int×D)) (a3:Sl),(∀x∈R,Pair x)->(∀x∈S,Pair x)->(∀x∈R,∀y∈S,vG x y)->R.Pairwise (fun a b=>vG b a)->tL S st kvs->kvs.length + R.length<=1000 ->
  ∃kvs' b3,fU (aR 3) iG (R.map aj) [.fz (.tup (A.map aj)),.fz (aj st),.od kvs,a3]=.nx [.fz (.tup (A.map aj)),.fz (aj st),.od kvs',b3]/\tL (R.reverse++S) st kvs'/\kvs'.length<=kvs.length + R.length
 | [],S,kvs,a3,_,_,_,_,h,_=>⟨kvs,a3,rfl,h,bz _⟩
 |c::R,S,kvs,a3,pr,ps,lt,pw,h,hl=>by
  simp only[cq]at hl;have hc:=pr c (.head _);obtain⟨n,e,h'⟩:=Ws hu hc ps (lt c (.head _)) h;have st1:iG [.fz (.tup (A.map aj)),.fz (aj st),.od kvs,.fz (aj c)]=.nx [.fz (.tup (A.map aj)),.fz (aj st),.od (ju kvs c (.int (n + 1))),.fz (aj c)]:=by unfold iG;refine uE (kvs:=kvs) (ks:=c) (bC (Xe (kvs:=kvs) rfl (ao (cQ (ao (au rfl) (ao (au rfl) aU)) (bU rfl (oJ _ _ hc hs))) (ao cu aU))) cu ?_) rfl (au rfl) (by lia);rw[e];exact jL
  have pc:=gL.mp pw;have lp:=rH kvs c (.int (n + 1));obtain⟨k2,b3,e2,h2,l2⟩:=Cv (A:=A) hs hu R (c::S) (ju kvs c (.int (n + 1))) (.fz (aj c)) (fun x hx=>pr x (.tail _ hx)) (fun x hx=>(bP.mp hx).elim (fun z=>z▸hc) (ps x)) (fun x hx y hy=>(bP.mp hy).elim (fun z=>z▸pc.1 x hx) (lt x (.tail _ hx) y)) pc.2 h' (by lia);refine⟨k2,b3,?_,?_,by simp only[cq];lia⟩
  ·simp only[cb,fU,aR,h_,gS,st1];exact e2
  ·rw[wa,j9];exact h2
theorem Xj{A:KL}(hA:gW A)(ha:A.length<=900){st:List Int}(hs:Pair st)(hu:Up st):∃kvs,dU [.tup (A.map aj),aj st]=.ok (cZ kvs)/\tL A st kvs:=by
 obtain⟨kvs,b3,e,h,l⟩:=Cv (A:=A) hs hu A.reverse [] [] .no (fun x hx=>hA.pr x (o9.mp hx)) (fun x hx=>by cases hx) (fun x _ y hy=>by cases hy) (List.pairwise_reverse.mpr hA.pw) (fun x=>⟨fun z=>(by cases z),fun _=>rfl⟩) (by simp;lia);rw[List.reverse_reverse,i4]at h;refine⟨kvs,?_,h⟩;have run:jX (aY ["cells","stride","lengths","cell"] [.tup (A.map aj),aj st])=.rt (cZ kvs):=by
  unfold jX;refine aX (ρ1:=[.fz (.tup (A.map aj)),.fz (aj st),.od [],.no]) rfl (aX (sI (ρ1:=[.fz (.tup (A.map aj)),.fz (aj st),.od kvs,b3]) ?_) ?_)
  ·unfold Oh;rw[show(fL (aD 0) asV) [.fz (.tup (A.map aj)),.fz (aj st),.od [],.no]=.ok (A.reverse.map aj) from v_l (au rfl) (by unfold asV;dsimp only;rw[if_pos (by rw[cx];lia),List.map_reverse])];exact e
  ·exact gO (au rfl)
 unfold dU;rw[run];rfl
theorem aar{O:KL}(hO:gW O)(ho:O.length<=900){st:List Int}(hs:Pair st)(hu:Up st):∃len:List Int->Nat,(∀x∈O,Cm O st x (len x))/\fH [.tup (O.map aj),aj st]=.ok (.lst ((O.filter fun x=>decide (mi x st∉O)).map fun h=>.tup [aj h,.int (len h)])):=by
 obtain⟨kvs,e,h⟩:=Xj hO ho hs hu
 let len:List Int->Nat:=fun x=>match bT kvs x with|some (.int n)=>n.toNat|_=>0
 have hlen:∀x∈O,bT kvs x=some (.int (len x))/\Cm O st x (len x):=fun x hx=>by
  obtain⟨n,e,r⟩:=(h x).1 hx;have:len x=n:=by show(match bT kvs x with|some (.int n)=>n.toNat|_=>0)=n;rw[e];simp
  rw[this];exact⟨e,r⟩
 refine⟨len,fun x hx=>(hlen x hx).2,?_⟩;have cm:dZ (aR 0) jz nO 1 [2,1] (fL (aD 0) Rk) [.fz (.tup (O.map aj)),.fz (aj st),.fz (cZ kvs),.no]=.ok (.lst ((O.filter fun x=>decide (mi x st∉O)).map aj)):=by
  refine rJ (cs:=[.fz (cZ kvs),.fz (aj st)]) rfl (v_l (au rfl) rfl) (fun ks hk=>?_) (fun ks hk=>au rfl) (by lia);unfold jz;refine pq (bC (cQ (ao (au rfl) (ao (au rfl) aU)) (bU rfl (pR _ _ (hO.pr ks hk) hs))) (au rfl) ?_);rw[Xg];congr 2;by_cases c:mi ks st∈O
  ·obtain⟨n,e,_⟩:=(h _).1 c;rw[e];simp[c]
  ·rw[(h _).2 c];simp[c]
 have run:iH (aY ["piece","stride","lengths","heads"] [.tup (O.map aj),aj st])=.rt (.lst ((O.filter fun x=>decide (mi x st∉O)).map fun h=>.tup [aj h,.int (len h)])):=by unfold iH;refine aX (kj (cQ (ao (au rfl) (ao (au rfl) aU)) (bU rfl e))) (aX (kj cm) ?_);refine gO ?_;refine zT (cs:=[.fz (cZ kvs)]) rfl (v_l (au rfl) rfl) (fun ks hk=>?_) (et (nX _ _) (by lia));unfold nP;exact cQ (ao (au rfl) (ao (bC (au rfl) (au rfl) (Xf (hlen ks (f_.mp hk).1).1)) aU)) (t2 _ _)
 unfold fH;rw[run];rfl
theorem wK{A O:KL}{st:List Int}{kvs:List (List Int×D)}(hk:tL A st kvs){len:List Int->Nat}{a0 a1 a2:Sl}:∀(Hs P:KL) (a5 a6:Sl),(∀h∈Hs,Pair h/\0 < len h)->(∀p∈P,Pair p)->P.length<=1000 ->
  ∃(P':KL) (b5 b6:Sl),fU (ji 2 (bQ (aR 5) (bQ (aR 6) jE))) fY (Hs.map fun h=>.tup [aj h,.int (len h)]) [a0,a1,a2,.fz (cZ kvs),.fz (.lst (P.map aj)),a5,a6]=.nx [a0,a1,a2,.fz (cZ kvs),.fz (.lst (P'.map aj)),b5,b6] /\
   ∃t:List Int->Bool,P'=P.filter t/\∀p∈P,(t p=true↔∀h∈Hs,∀j,j < len h->go st (ad p h) j∈A)
 | [],P,a5,a6,_,_,_=>⟨P,a5,a6,rfl,fun _=>true,(List.filter_eq_self.mpr fun _ _=>rfl).symm,fun p _=>⟨fun _ h hh=>(by cases hh),fun _=>rfl⟩⟩
 |h::Hs,P,a5,a6,hh,hP,hl=>by
  obtain⟨ph,pos⟩:=hh h (.head _)
  let t1:List Int->Bool:=fun p=>match (bT kvs (ad p h)).getD (.int 0) with|.int m=>decide ((len h:Int)<=m)|_=>false
  have tt:∀p,(t1 p=true↔∀j,j < len h->go st (ad p h) j∈A)/\∃m:Nat,(bT kvs (ad p h)).getD (.int 0)=.int m/\t1 p=decide ((len h:Int)<=m):=fun p=>by
   obtain⟨m,e,iff⟩:=adK pos (Ek p h) hk;have e1:t1 p=decide ((len h:Int)<=m):=by show(match (bT kvs (ad p h)).getD (.int 0) with|.int m=>decide ((len h:Int)<=m)|_=>false)=_;rw[e]
   refine⟨?_,m,e,e1⟩;rw[e1,decide_eq_true_eq,<- iff];lia
  have cm:dZ (aR 0) jB nQ 1 [6,3,5] (fL (aD 4) asL) [a0,a1,a2,.fz (cZ kvs),.fz (.lst (P.map aj)),.fz (aj h),.fz (.int (len h))]=.ok (.lst ((P.filter t1).map aj)):=by refine rJ (cs:=[.fz (.int (len h)),.fz (cZ kvs),.fz (aj h)]) rfl (v_l (au rfl) rfl) (fun p hp=>?_) (fun ks hk=>au rfl) hl;obtain⟨_,m,e,e1⟩:=tt p;unfold jB;refine pq (bC (adT (kvs:=kvs) rfl (ao (cQ (ao (au rfl) (ao (au rfl) aU)) (bU rfl (oJ _ _ (hP p hp) ph))) (ao cu aU))) (au rfl) ?_);rw[e,e1];exact Zj
  have st1:fY [a0,a1,a2,.fz (cZ kvs),.fz (.lst (P.map aj)),.fz (aj h),.fz (.int (len h))]=.nx [a0,a1,a2,.fz (cZ kvs),.fz (.lst ((P.filter t1).map aj)),.fz (aj h),.fz (.int (len h))]:=by unfold fY;exact kj cm
  obtain⟨P',b5,b6,e2,t,eP,ht⟩:=wK (O:=O) hk (a0:=a0) (a1:=a1) (a2:=a2) Hs (P.filter t1) (.fz (aj h)) (.fz (.int (len h))) (fun x hx=>hh x (.tail _ hx)) (fun p hp=>hP p (f_.mp hp).1) (et (nX _ _) hl);refine⟨P',b5,b6,?_,fun p=>t p && t1 p,?_,fun p hp=>?_⟩
  ·simp only[cb,fU];rw[show ji 2 (bQ (aR 5) (bQ (aR 6) jE)) (.tup [aj h,.int (len h)]) [a0,a1,a2,.fz (cZ kvs),.fz (.lst (P.map aj)),a5,a6]=some [a0,a1,a2,.fz (cZ kvs),.fz (.lst (P.map aj)),.fz (aj h),.fz (.int (len h))] from rfl];simp only[st1];exact e2
  ·rw[eP,List.filter_filter]
  ·rw[ir,(tt p).1];constructor
   ·rintro⟨z1,z2⟩ x hx;rcases bP.mp hx with rfl|hx
    ·exact z2
    ·exact(ht p (f_.mpr ⟨hp,(tt p).1.mpr z2⟩)).mp z1 x hx
   ·intro z;have z2:=z h (.head _);exact⟨(ht p (f_.mpr ⟨hp,(tt p).1.mpr z2⟩)).mpr fun x hx=>z x (.tail _ hx),z2⟩
noncomputable def vZ(A O:KL):KL:=(A.map fun x=>mi x (O.headD [])).filter fun p=>O.all fun t=>decide (ad p t∈A)
theorem Xk{A O:KL}(hA:gW A)(ha:A.length<=900)(hO:gW O)(ho:O.length<=900)(ne:O≠[]):fJ [.tup (A.map aj),.tup (O.map aj)]=.ok (.tup ((vZ A O).map aj)):=by
 obtain⟨st,es,ps,us⟩:=Xi hO ho ne;obtain⟨kvs,ek,hk⟩:=Xj hA ha ps us;obtain⟨len,hl,eh⟩:=aar hO ho ps us;have hd:∃o O',O=o::O':=by cases O with|nil=>exact(ne rfl).elim|cons o O'=>exact⟨o,O',rfl⟩
 obtain⟨o,O',eO⟩:=hd;have po:Pair o:=hO.pr o (by rw[eO];exact dC);have h0:O.headD []=o:=by rw[eO];rfl
 have cm:dZ (aR 0) (fun _=>.ok true) jA 1 [1] (fL (aD 0) Rk) [.fz (.tup (A.map aj)),.fz (.tup (O.map aj)),.fz (aj st),.fz (cZ kvs),.no,.no,.no]=.ok (.lst ((A.map fun x=>mi x o).map aj)):=by rw[iF];refine zT (cs:=[.fz (.tup (O.map aj))]) rfl (v_l (au rfl) rfl) (fun ks hk=>?_) (by lia);unfold jA;refine cQ (ao (au rfl) (ao (bC (au rfl) cu (show gU (.tup (O.map aj)) (.int 0)=.ok (aj o) from ?_)) aU)) (bU rfl (pR _ _ (hA.pr ks hk) po));exact Xh (j:=0) (by rw[eO];rfl)
 obtain⟨P',b5,b6,e2,t,eP,ht⟩:=wK (O:=O) hk (len:=len) (a0:=.fz (.tup (A.map aj))) (a1:=.fz (.tup (O.map aj))) (a2:=.fz (aj st)) (O.filter fun x=>decide (mi x st∉O)) (A.map fun x=>mi x o) .no .no
  (fun h hh=>by
   have hm:=(f_.mp hh).1;exact⟨hO.pr h hm,u6 fun z=>(hl h hm).2 (by rw[z,nC (hO.pr h hm)];exact hm)⟩)
  (fun p hp=>by obtain⟨x,_,rfl⟩:=eQ.mp hp;exact uF _ _) (by rw[cx];lia)
 have eq:P'=vZ A O:=by
  rw[eP];unfold vZ;rw[h0];refine List.filter_congr fun p hp=>?_;rw[Bool.eq_iff_iff,ht p hp,kz];simp only[decide_eq_true_eq];rw[<- Wt hO.pr us hl p];constructor
  ·intro z h hh hm;exact z h (f_.mpr ⟨hh,decide_eq_true hm⟩)
  ·intro z h hh;have:=f_.mp hh;exact z h this.1 (of_decide_eq_true this.2)
 have run:iI (aY ["cells","piece","stride","lengths","places","head","length"] [.tup (A.map aj),.tup (O.map aj)])=.rt (.tup ((vZ A O).map aj)):=by unfold iI;refine aX (kj (cQ (ao (au rfl) aU) (bU rfl es))) (aX (kj (cQ (ao (au rfl) (ao (au rfl) aU)) (bU rfl ek))) (aX (kj cm) (aX (sI (Dy (cQ (ao (au rfl) (ao (au rfl) aU)) (bU rfl eh)) e2)) ?_)));rw[<- eq];exact gO (cQ (ao (au rfl) aU) Ej)
 unfold fJ;rw[run];rfl
theorem Lj{c s o n J A1 A2 A3 A4 q A5 r A6 A7 u A8:Int}(e0:fZ (.int 15) (.int J)=.ok (.int A1))(e1:fZ (.int A1) (.int J)=.ok (.int A2))(e2:fZ (.int 31) (.int s)=.ok (.int A3))(e3:fZ (.int (o + A2 + A3 + 11)) (.int 48271)=.ok (.int A4))(e4:oM (.int A4) (.int 2147483647)=.ok (.int q))
  (e5:fZ (.int q) (.int q)=.ok (.int A5)) (e6:oM (.int A5) (.int 2147483629)=.ok (.int r)) (e7:fZ (.int n) (.int 998244353)=.ok (.int A6)) (e8:fZ (.int r) (.int 69621)=.ok (.int A7)) (e9:oM (.int A7) (.int 2147483587)=.ok (.int u)) (e10:wQ (.int u) (.int 7)=.ok (.int A8)) :
  eZ [.fz (.int c),.fz (.int s),.fz (.int o),.fz (.int n),.fz (.int J)]=.nx [.fz (.int c),.fz (.int s),.fz (.int r),.fz (.int (A6 + A8)),.fz (.int J)]:=by
 unfold eZ;simp (config:={ decide:=false }) only[bO,VF,VG,VH,adq,adt,Cd,VJ,adu,VL,VN,VP,VR,Wa,Ko,gQ,dz,Ai,uo,lK,acM,qw,wB,Va,JV,Vb,Zg,bH,aD,fC,fA,fB,ak,aZ,fT,yI,wN,fOr,pW,acf,Gk,Gw,fL,fSl,fP,acj,toB,toI,Kl,jL,nq,Ue,acO,Qm,Zj,zQ,vq,Ej,Kq,Kr,Ks,Ku,Kv,Wc,Kw,adw,adx,ady,adz,adA,Wd,qy,Ug,HJ,Wb,zR,HN,aR,ji,bQ,jE,aY,cb,j4,cq,eI,i5,o_,pS,xf,n8,gS,h_,xh,xi,xj,xk,hZ,sP,if_true,if_false,ite_true,ite_false,decide_true,decide_false,gp,o3,cn,reduceIte,reduceCtorEq,e0,e1,e2,e3,e4,e5,e6,e7,e8,e9,e10]
theorem Jb{c s o n:Int}{j:Nat}(hs:0<=s/\s<=9)(hj:j < 24)(h1:0<=o)(h2:o < 2147483647) :
  ∃o' n':Int,eZ [.fz (.int c),.fz (.int s),.fz (.int o),.fz (.int n),.fz (.int j)]=.nx [.fz (.int c),.fz (.int s),.fz (.int o'),.fz (.int n'),.fz (.int j)]/\0<=o'/\o' < 2147483647:=by
 have e0:fZ (.int 15) (.int j)=.ok (.int (15 * j)):=mJ (by omega);have e1:fZ (.int (15 * (j:Int))) (.int j)=.ok (.int (15 * j * j)):=mJ (by omega);have e2:fZ (.int 31) (.int s)=.ok (.int (31 * s)):=mJ (by omega);have e3:fZ (.int (o + 15 * j * j + 31 * s + 11)) (.int 48271)=.ok (.int ((o + 15 * j * j + 31 * s + 11) * 48271)):=mJ (by decide);have e4:=wC (m:=(o + 15 * j * j + 31 * s + 11) * 48271) (n:=2147483647) (by decide);have b1:0<=(o + 15 * (j:Int) * j + 31 * s + 11) * 48271 % 2147483647:=l5 _ (by decide);have b2:(o + 15 * (j:Int) * j + 31 * s + 11) * 48271 % 2147483647 < 2147483647:=n9 _ (by decide);generalize (o + 15 * (j:Int) * j + 31 * s + 11) * 48271 % 2147483647=q at e4 b1 b2;have e5:fZ (.int q) (.int q)=.ok (.int (q * q)):=mJ (by omega);have e6:=wC (m:=q * q) (n:=2147483629) (by decide);have c1:0<=q * q % 2147483629:=l5 _ (by decide);have c2:q * q % 2147483629 < 2147483629:=n9 _ (by decide);generalize q * q % 2147483629=r at e6 c1 c2;have e7:fZ (.int n) (.int 998244353)=.ok (.int (n * 998244353)):=mJ (by decide);have e8:fZ (.int r) (.int 69621)=.ok (.int (r * 69621)):=mJ (by decide);have e9:=wC (m:=r * 69621) (n:=2147483587) (by decide);generalize r * 69621 % 2147483587=u at e9;have e10:=Nj (m:=u) (n:=7) ⟨by decide,by decide⟩;exact⟨_,_,Lj e0 e1 e2 e3 e4 e5 e6 e7 e8 e9 e10,c1,by omega⟩
theorem Jc(c:Int){s o:Int}(hs:0<=s/\s<=9)(b1:0<=o)(b2:o < 2147483647):∃(o' n:Int) (a:Sl),wA (aR 4) eZ (fC (.int 24)) [.fz (.int c),.fz (.int s),.fz (.int o),.fz (.int 0),.no]=.nx [.fz (.int c),.fz (.int s),.fz (.int o'),.fz (.int n),a]:=by
 obtain⟨ρ',e1,o',n,a,rfl,_⟩:=GF (h:=aR 4) (g:=eZ) (fun ρ=>∃(o n:Int) (a:Sl),ρ=[.fz (.int c),.fz (.int s),.fz (.int o),.fz (.int n),a]/\0<=o/\o < 2147483647)
  (ds:=(cz 24).map fun(i:Nat)=>.int i) (ρ:=[.fz (.int c),.fz (.int s),.fz (.int o),.fz (.int 0),.no]) ⟨_,_,_,rfl,b1,b2⟩ (by
   rintro d hd ρ ⟨o,n,a,rfl,h1,h2⟩;obtain⟨j,hj,rfl⟩:=eQ.mp hd;obtain⟨o',n',e,h3,h4⟩:=Jb (c:=c) (s:=s) (n:=n) (j:=j) hs (iS.mp hj) h1 h2;exact⟨_,_,rfl,e,_,_,_,rfl,h3,h4⟩)
 exact⟨o',n,a,JG (N:=24) cu (by decide) rfl e1⟩
theorem Xl(c s T:Int)(p1:mq (.int 10) (.int 18)=.ok (.int T))(h:decide (T<=c)=true):dJ [.int c,.int s]=.ok (.int (c - T)):=by unfold dJ nH;simp (config:={ decide:=false }) only[bO,VF,VG,VH,adq,adt,Cd,VJ,adu,VL,VN,VP,VR,Wa,Ko,gQ,dz,Ai,uo,lK,acM,qw,wB,Va,JV,Vb,Zg,bH,aD,fC,fA,fB,ak,aZ,fT,yI,wN,fOr,pW,acf,Gk,Gw,fL,fSl,fP,acj,toB,toI,Kl,jL,nq,Ue,acO,Qm,Zj,zQ,vq,Ej,Kq,Kr,Ks,Ku,Kv,Wc,Kw,adw,adx,ady,adz,adA,Wd,qy,Ug,HJ,Wb,zR,HN,aR,ji,bQ,jE,aY,cb,j4,cq,eI,i5,o_,pS,xf,n8,gS,h_,xh,xi,xj,xk,hZ,sP,if_true,if_false,ite_true,ite_false,decide_true,decide_false,gp,o3,cn,reduceIte,reduceCtorEq,p1,h]
theorem Xm(c s T o o' n:Int)(a:Sl)(p1:mq (.int 10) (.int 18)=.ok (.int T))(p2:oM (.int c) (.int 2147483629)=.ok (.int o))
  (f1:wA (aR 4) eZ (fC (.int 24)) [.fz (.int c),.fz (.int s),.fz (.int o),.fz (.int 0),.no]=.nx [.fz (.int c),.fz (.int s),.fz (.int o'),.fz (.int n),a]) (h:decide (T<=c)=false):dJ [.int c,.int s]=.ok (.int n):=by
 unfold dJ nH;simp (config:={ decide:=false }) only[bO,VF,VG,VH,adq,adt,Cd,VJ,adu,VL,VN,VP,VR,Wa,Ko,gQ,dz,Ai,uo,lK,acM,qw,wB,Va,JV,Vb,Zg,bH,aD,fC,fA,fB,ak,aZ,fT,yI,wN,fOr,pW,acf,Gk,Gw,fL,fSl,fP,acj,toB,toI,Kl,jL,nq,Ue,acO,Qm,Zj,zQ,vq,Ej,Kq,Kr,Ks,Ku,Kv,Wc,Kw,adw,adx,ady,adz,adA,Wd,qy,Ug,HJ,Wb,zR,HN,aR,ji,bQ,jE,aY,cb,j4,cq,eI,i5,o_,pS,xf,n8,gS,h_,xh,xi,xj,xk,hZ,sP,if_true,if_false,ite_true,ite_false,decide_true,decide_false,gp,o3,cn,reduceIte,reduceCtorEq,p1,h,p2,f1]
theorem Xn(c s:Int)(hs:0<=s/\s<=9):∃n:Int,dJ [.int c,.int s]=.ok (.int n):=by
 have p1:mq (.int 10) (.int 18)=.ok (.int (10 ^ Int.toNat 18)):=Ud ⟨by decide,by decide,by decide⟩;generalize (10:Int) ^ Int.toNat 18=T at p1;have p2:oM (.int c) (.int 2147483629)=.ok (.int (c % 2147483629)):=wC (by decide);have b1:0<=c % 2147483629:=l5 _ (by decide);have b2:c % 2147483629 < 2147483629:=n9 _ (by decide);obtain⟨o',n,a,f1⟩:=Jc c hs (o:=c % 2147483629) b1 (by omega);cases h:decide (T<=c) with
 |true=>exact⟨_,Xl c s T p1 h⟩
 |false=>exact⟨_,Xm c s T _ o' n a p1 p2 f1 h⟩
theorem p6:mq (.int 10) (.int 6)=.ok (.int 1000000):=by rw[Ud ⟨by decide,by decide,by decide⟩];exact congrArg (fun z=>Rs.ok (D.int z)) (by decide)
theorem m6:fZ (.int 2) (.int 1000000)=.ok (.int 2000000):=by rw[mJ (by decide)];exact congrArg (fun z=>Rs.ok (D.int z)) (by decide)
theorem Lk{n w m:Int}{kvs:List (List Int×D)}{a4 a5 a6 a7 a8:Sl}(hl:kvs.length<=1000000) :
  ∃(n' x y:Int) (b5 b6 b7 b8:Sl),ig [.fz (.int n),.fz (.int w),.fz (.int m),.od kvs,a4,a5,a6,a7,a8]=.nx [.fz (.int n'),.fz (.int w),.fz (.int m),.od (ju kvs [x,y] (.bl true)),a4,b5,b6,b7,b8]:=by
 have d1:=vg (m:=n) (n:=25) ⟨by decide,by decide⟩;generalize n / 25=n1 at d1;generalize n % 25=at_ at d1;have v5:wQ (.int at_) (.int 5)=.ok (.int (at_ / 5)):=Nj ⟨by decide,by decide⟩;have r5:oM (.int at_) (.int 5)=.ok (.int (at_ % 5)):=wC (by decide);have pl:cM (.int 2000000) (.int 1)=.ok (.int 2000001):=rfl;cases h:decide (w=1) with
 |false =>
  refine⟨n1,at_ / 5 - 2,at_ % 5 - 2,.fz (.int at_),.fz (aj [at_ / 5 - 2,at_ % 5 - 2]),a7,a8,?_⟩;unfold ig;refine aX (ρ1:=[.fz (.int n1),.fz (.int w),.fz (.int m),.od kvs,a4,.fz (.int at_),a6,a7,a8]) (jG (cQ (ao (au rfl) (ao cu aU)) d1) rfl) ?_;refine aX (kj (cQ (ao (bC (bC (au rfl) cu v5) cu nq) (ao (bC (bC (au rfl) cu r5) cu nq) aU)) (t2 _ _))) ?_;refine aX (cX (pq (bC (au rfl) cu (by rw[qy,h]))) mG) ?_;exact uE (ks:=[at_ / 5 - 2,at_ % 5 - 2]) cu rfl (au rfl) hl
 |true =>
  have d2:=vg (m:=n1) (n:=2000001) ⟨by decide,by decide⟩;generalize n1 / 2000001=n2 at d2;generalize n1 % 2000001=r at d2;have d3:=vg (m:=n2) (n:=2000001) ⟨by decide,by decide⟩;generalize n2 / 2000001=n3 at d3;generalize n2 % 2000001=c at d3;refine⟨n3,r - 1000000,c - 1000000,.fz (.int at_),.fz (aj [r - 1000000,c - 1000000]),.fz (.int r),.fz (.int c),?_⟩;unfold ig;refine aX (ρ1:=[.fz (.int n1),.fz (.int w),.fz (.int m),.od kvs,a4,.fz (.int at_),a6,a7,a8]) (jG (cQ (ao (au rfl) (ao cu aU)) d1) rfl) ?_;refine aX (kj (cQ (ao (bC (bC (au rfl) cu v5) cu nq) (ao (bC (bC (au rfl) cu r5) cu nq) aU)) (t2 _ _))) ?_;refine aX (ρ1:=[.fz (.int n3),.fz (.int w),.fz (.int m),.od kvs,a4,.fz (.int at_),.fz (aj [r - 1000000,c - 1000000]),.fz (.int r),.fz (.int c)]) (oh (pq (bC (au rfl) cu (by rw[qy,h]))) ?_) ?_
  ·refine aX (ρ1:=[.fz (.int n2),.fz (.int w),.fz (.int m),.od kvs,a4,.fz (.int at_),.fz (aj [at_ / 5 - 2,at_ % 5 - 2]),.fz (.int r),a8]) (jG (cQ (ao (au rfl) (ao (bC (bC cu (bC cu cu p6) m6) cu pl) aU)) d2) rfl) ?_;refine aX (ρ1:=[.fz (.int n3),.fz (.int w),.fz (.int m),.od kvs,a4,.fz (.int at_),.fz (aj [at_ / 5 - 2,at_ % 5 - 2]),.fz (.int r),.fz (.int c)]) (jG (cQ (ao (au rfl) (ao (bC (bC cu (bC cu cu p6) m6) cu pl) aU)) d3) rfl) ?_;exact kj (cQ (ao (bC (au rfl) (bC cu cu p6) nq) (ao (bC (au rfl) (bC cu cu p6) nq) aU)) (t2 _ _))
  ·exact uE (ks:=[r - 1000000,c - 1000000]) cu rfl (au rfl) hl
theorem Ln{w m:Int}:∀(l:List Nat) (n:Int) (kvs:List (List Int×D)) (a4 a5 a6 a7 a8:Sl),GN kvs->kvs.length + l.length<=1000 ->
  ∃(n':Int) (kvs':List (List Int×D)) (b4 b5 b6 b7 b8:Sl),fU (aR 4) ig (l.map fun(i:Nat)=>.int i) [.fz (.int n),.fz (.int w),.fz (.int m),.od kvs,a4,a5,a6,a7,a8]=.nx [.fz (.int n'),.fz (.int w),.fz (.int m),.od kvs',b4,b5,b6,b7,b8]/\GN kvs'/\kvs'.length<=kvs.length + l.length/\(kvs.map (·.1)≠[]∨l≠[]->kvs'.map (·.1)≠[]):=by
 intro l
 induction l with
 |nil=>intro n kvs a4 a5 a6 a7 a8 hg _;exact⟨n,kvs,a4,a5,a6,a7,a8,rfl,hg,bz _,fun h=>h.elim id fun z=>(z rfl).elim⟩
 |cons i l ih =>
  intro n kvs a4 a5 a6 a7 a8 hg hl;simp only[cq]at hl;obtain⟨n1,x,y,b5,b6,b7,b8,e⟩:=Lk (n:=n) (w:=w) (m:=m) (kvs:=kvs) (a4:=.fz (.int i)) (a5:=a5) (a6:=a6) (a7:=a7) (a8:=a8) (by lia);have lp:=rH kvs [x,y] (.bl true);have mem:[x,y]∈(ju kvs [x,y] (.bl true)).map (·.1):=(uD kvs [x,y] [x,y] (.bl true)).mpr (.inl rfl);obtain⟨n2,Jd,c4,c5,c6,c7,c8,e2,g2,l2,ne⟩:=ih n1 (ju kvs [x,y] (.bl true)) (.fz (.int i)) b5 b6 b7 b8 (hg.put x y (.bl true)) (by lia);refine⟨n2,Jd,c4,c5,c6,c7,c8,?_,g2,by simp only[cq];lia,fun _=>ne (.inl (List.ne_nil_of_mem mem))⟩;simp only[cb,fU,aR,h_,gS,e];exact e2
structure Good (L:KL):Prop where
 st:gW L
 ne:L≠[]
 le:L.length<=12
theorem Good.pr{L:KL}(h:Good L):∀ks∈L,Pair ks:=h.st.pr
theorem aas(n:Int):∃(n':Int) (L:KL),jw [.int n]=.ok (.tup [.tup (L.map aj),.int n'])/\Good L:=by
 have d1:=vg (m:=n) (n:=8) ⟨by decide,by decide⟩;generalize n / 8=n1 at d1;generalize n % 8=w at d1;have d2:=vg (m:=n1) (n:=5) ⟨by decide,by decide⟩;have u0:0<=n1 % 5:=l5 _ (by decide);have u1:n1 % 5 < 5:=n9 _ (by decide);generalize n1 / 5=n2 at d2;generalize n1 % 5=m at d2 u0 u1;have iff:∃(n3 m':Int),(0<=m'/\m' < 12)/\uo (fT (bH yR (aD 1) (fC (.int 0)))) (lK (fA (ak (aD 0) (ak (fC (.int 12)) aZ)) Bj) (ji 2 (bQ (aR 0) (bQ (aR 2) jE)))) wB [.fz (.int n2),.fz (.int w),.fz (.int m),.no,.no,.no,.no,.no,.no]=.nx [.fz (.int n3),.fz (.int w),.fz (.int m'),.no,.no,.no,.no,.no,.no]:=by
  cases h:decide (w=0) with
  |false=>exact⟨n2,m,⟨u0,by lia⟩,cX (pq (bC (au rfl) cu (by rw[qy,h]))) mG⟩
  |true=>exact⟨n2 / 12,n2 % 12,⟨l5 _ (by decide),n9 _ (by decide)⟩,oh (pq (bC (au rfl) cu (by rw[qy,h]))) (jG (cQ (ao (au rfl) (ao cu aU)) (vg ⟨by decide,by decide⟩)) rfl)⟩
 obtain⟨n3,m',⟨h0,h12⟩,ei⟩:=iff;obtain⟨M,rfl⟩:∃M:Nat,m'=M:=⟨m'.toNat,by lia⟩
 obtain⟨n4,kvs,b4,b5,b6,b7,b8,e,g,l,ne⟩:=Ln (w:=w) (m:=M) (cz (1 + M)) n3 [] .no .no .no .no .no GN.nil (by rw[ke];simp only[eI];lia);rw[ke,eI]at l;have nn:kvs.map (·.1)≠[]:=ne (.inr (by intro z;have:=congrArg il z;rw[ke]at this;simp at this));have sd:oE 3 [.fz (.int n4),.fz (.int w),.fz (.int M),.od kvs,b4,b5,b6,b7,b8]=.ok (.lst ((So.cR (kvs.map (·.1))).map aj)):=by show(if kvs.length < 4900/\∀p∈kvs,p.1≠[] then Rs.ok (D.lst ((So.cR (kvs.map (·.1))).map aj)) else .no)=_;rw[if_pos ⟨by lia,fun p hp=>(g.pr p.1 (sC hp)).ne⟩]
 refine⟨n4,So.cR (kvs.map (·.1)),?_,gW.sort (show ∀x∈kvs.map (fun p=>p.1),Pair x from g.pr) g.nd,fun z=>nn ?_,by rw[rG,cx];lia⟩
 ·have run:lR (aY ["number","way","many","steps","k","at","step","row","column"] [.int n])=.rt (.tup [.tup ((So.cR (kvs.map (·.1))).map aj),.int n4]):=by unfold lR;refine aX (ρ1:=[.fz (.int n1),.fz (.int w),.no,.no,.no,.no,.no,.no,.no]) (jG (cQ (ao (au rfl) (ao cu aU)) d1) rfl) ?_;refine aX (ρ1:=[.fz (.int n2),.fz (.int w),.fz (.int m),.no,.no,.no,.no,.no,.no]) (jG (cQ (ao (au rfl) (ao cu aU)) d2) rfl) ?_;refine aX ei ?_;refine aX (ρ1:=[.fz (.int n3),.fz (.int w),.fz (.int M),.od [],.no,.no,.no,.no,.no]) rfl ?_;refine aX (sI (JG (n:=1 + (M:Int)) (N:=1 + M) (bC cu (au rfl) jL) (by lia) (by lia) e)) ?_;exact gO (cQ (ao (cQ (ao sd aU) rfl) (ao (au rfl) aU)) (t2 _ _))
  unfold jw;rw[run];rfl
 ·have:=congrArg il z;rw[rG]at this;exact rS.mp this
theorem p12:mq (.int 10) (.int 12)=.ok (.int 1000000000000):=by rw[Ud ⟨by decide,by decide,by decide⟩];exact congrArg (fun z=>Rs.ok (D.int z)) (by decide)
theorem m12:fZ (.int 2) (.int 1000000000000)=.ok (.int 2000000000000):=by rw[mJ (by decide)];exact congrArg (fun z=>Rs.ok (D.int z)) (by decide)
theorem agn:cM (.int 2000000000000) (.int 1)=.ok (.int 2000000000001):=rfl
noncomputable def kp(a:Int):Int:=if (if a < 1000000000000 then a else 1000000000000) > -1000000000000 then (if a < 1000000000000 then a else 1000000000000) else-1000000000000
theorem Xo(a b:Int):∃x y:Int,gD [.int a,.int b]=.ok (aj [x,y]):=by
 refine⟨kp a,kp b,?_⟩;have mn:∀z:Int,Hy [.int 1000000000000,.int z]=.ok (.int (if z < 1000000000000 then z else 1000000000000)):=fun _=>rfl;have mx:∀z:Int,HB [.int (-1000000000000),.int (if z < 1000000000000 then z else 1000000000000)]=.ok (.int (kp z)):=fun _=>rfl;have run:nJ (aY ["row","column"] [.int a,.int b])=.rt (aj [kp a,kp b]):=by unfold nJ;exact gO (cQ (ao (cQ (ao (aaW (bC cu cu p12)) (ao (cQ (ao (bC cu cu p12) (ao (au rfl) aU)) (mn _)) aU)) (mx _)) (ao (cQ (ao (aaW (bC cu cu p12)) (ao (cQ (ao (bC cu cu p12) (ao (au rfl) aU)) (mn _)) aU)) (mx _)) aU)) (t2 _ _))
 unfold gD;rw[run];rfl
theorem adW(n:Int):∃x y n':Int,jf [.int n]=.ok (.tup [aj [x,y],.int n']):=by
 have d1:=vg (m:=n) (n:=5) ⟨by decide,by decide⟩;have u0:0<=n % 5:=l5 _ (by decide);generalize n / 5=n1 at d1;generalize n % 5=w at d1 u0;cases h:decide (w > 1) with
 |true =>
  refine⟨0,0,n1,?_⟩;have run:je (aY ["number","way","row","column","by"] [.int n])=.rt (.tup [aj [0,0],.int n1]):=by unfold je;refine aX (ρ1:=[.fz (.int n1),.fz (.int w),.no,.no,.no]) (jG (cQ (ao (au rfl) (ao cu aU)) d1) rfl) ?_;exact vf (oh (pq (bC (au rfl) cu (by rw[Qm,h]))) (gO (cQ (ao (cQ (ao cu (ao cu aU)) (t2 _ _)) (ao (au rfl) aU)) (t2 _ _))))
  unfold jf;rw[run];rfl
 |false =>
  have hw:w<=1:=by simpa using of_decide_eq_false h
  have two:∃D1 B1:Int,(0 < D1/\D1 < 2 ^ 64)/\(-(2 ^ 64) < B1/\B1 < 2 ^ 64)/\gU (.lst [.int 2000000000001,.int 2]) (.int w)=.ok (.int D1)/\gU (.lst [.int 1,.int 2000000000000]) (.int w)=.ok (.int B1):=by
   rcases(show w=0∨w=1 by omega) with rfl|rfl
   ·exact⟨_,_,by decide,by decide,Bu zR,Bu zR⟩
   ·exact⟨_,_,by decide,by decide,Bu HN,Bu HN⟩
  obtain⟨D1,B1,hD,hB,i1,i2⟩:=two;have d2:=vg (m:=n1) (n:=D1) (cdb hD.1 (by omega));generalize n1 / D1=n2 at d2;generalize n1 % D1=r at d2;have d3:=vg (m:=n2) (n:=D1) (cdb hD.1 (by omega));generalize n2 / D1=n3 at d3;generalize n2 % D1=c at d3;have e1:fZ (.int r) (.int B1)=.ok (.int (r * B1)):=mJ hB;have e2:fZ (.int c) (.int B1)=.ok (.int (c * B1)):=mJ hB;refine⟨r * B1 - 1000000000000,c * B1 - 1000000000000,n3,?_⟩;have l2:∀a b:D,wO [a,b]=.ok (.lst [a,b]):=fun a b=>GC (by simp);have run:je (aY ["number","way","row","column","by"] [.int n])=.rt (.tup [aj [r * B1 - 1000000000000,c * B1 - 1000000000000],.int n3]):=by unfold je;refine aX (ρ1:=[.fz (.int n1),.fz (.int w),.no,.no,.no]) (jG (cQ (ao (au rfl) (ao cu aU)) d1) rfl) ?_;refine aX (cX (pq (bC (au rfl) cu (by rw[Qm,h]))) mG) ?_;refine aX (ρ1:=[.fz (.int n2),.fz (.int w),.fz (.int r),.no,.no]) (jG (cQ (ao (au rfl) (ao (bC (cQ (ao (bC (bC cu (bC cu cu p12) m12) cu agn) (ao cu aU)) (l2 _ _)) (au rfl) i1) aU)) d2) rfl) ?_;refine aX (ρ1:=[.fz (.int n3),.fz (.int w),.fz (.int r),.fz (.int c),.no]) (jG (cQ (ao (au rfl) (ao (bC (cQ (ao (bC (bC cu (bC cu cu p12) m12) cu agn) (ao cu aU)) (l2 _ _)) (au rfl) i1) aU)) d3) rfl) ?_;refine aX (kj (bC (cQ (ao cu (ao (bC cu (bC cu cu p12) m12) aU)) (l2 _ _)) (au rfl) i2)) ?_;exact gO (cQ (ao (cQ (ao (bC (bC (au rfl) (au rfl) e1) (bC cu cu p12) nq) (ao (bC (bC (au rfl) (au rfl) e2) (bC cu cu p12) nq) aU)) (t2 _ _)) (ao (au rfl) aU)) (t2 _ _))
  unfold jf;rw[run];rfl
theorem mk1{a0 P M L k a9:Sl}{bx by_ x y n u v:Int}{kvs:List (List Int×D)}(hl:kvs.length<=1000000)(e1:wQ (.int n) (.int 6)=.ok (.int u))(e2:oM (.int n) (.int 6)=.ok (.int v)) :
  ∃x' y':Int,jx [a0,P,M,.fz (aj [bx,by_]),L,.od kvs,k,.fz (.int n),.fz (aj [x,y]),a9]=.nx [a0,P,M,.fz (aj [bx,by_]),L,.od (ju kvs [x',y'] (.bl true)),k,.fz (.int n),.fz (aj [x,y]),a9]:=by
 obtain⟨x',y',hk⟩:=Xo (bx + u + x) (by_ + v + y);refine⟨x',y',?_⟩;unfold jx;exact uE (ks:=[x',y']) cu rfl (cQ (ao (bC (bC (bC (au rfl) cu rfl) (bC (au rfl) cu e1) jL) (bC (au rfl) cu rfl) jL) (ao (bC (bC (bC (au rfl) cu rfl) (bC (au rfl) cu e2) jL) (bC (au rfl) cu rfl) jL) aU)) (bU rfl hk)) hl
theorem Je{a0 P M L k a9:Sl}{bx by_ n:Int}:∀(O:KL) (kvs:List (List Int×D)) (a8:Sl),(∀ks∈O,Pair ks)->GN kvs->kvs.length + O.length<=1000 ->
  ∃kvs' b8,fU (aR 8) jx (O.map aj) [a0,P,M,.fz (aj [bx,by_]),L,.od kvs,k,.fz (.int n),a8,a9]=.nx [a0,P,M,.fz (aj [bx,by_]),L,.od kvs',k,.fz (.int n),b8,a9]/\GN kvs'/\kvs'.length<=kvs.length + O.length
 | [],kvs,a8,_,g,_=>⟨kvs,a8,rfl,g,by simp⟩
 |s::O,kvs,a8,hp,g,hl=>by obtain⟨x,y,rfl⟩:=hp s (.head _);simp only[cq]at hl;obtain⟨x',y',e⟩:=mk1 (a0:=a0) (P:=P) (M:=M) (L:=L) (k:=k) (a9:=a9) (bx:=bx) (by_:=by_) (x:=x) (y:=y) (n:=n) (kvs:=kvs) (by omega) (Nj (cdb (by decide) (by decide))) (wC (by decide));have lp:=rH kvs [x',y'] (.bl true);obtain⟨k2,b8,e2,g2,l2⟩:=Je (a0:=a0) (P:=P) (M:=M) (L:=L) (k:=k) (a9:=a9) (bx:=bx) (by_:=by_) (n:=n) O (ju kvs [x',y'] (.bl true)) (.fz (aj [x,y])) (fun z hz=>hp z (.tail _ hz)) (g.put _ _ _) (by omega);refine⟨k2,b8,?_,g2,by simp only[cq];omega⟩;simp only[cb,fU,aR,h_,gS,e];exact e2
theorem Jf{O:KL}(hO:Good O){M L a9:Sl}{bx by_:Int}:∀(l:List Nat) (n:Int) (kvs:List (List Int×D)) (a6 a7 a8:Sl),GN kvs->kvs.length + l.length * 12<=1000 ->
  ∃n' kvs' b6 b7 b8,fU (aR 6) jy (l.map fun(i:Nat)=>.int i) [.fz (.int n),.fz (.tup (O.map aj)),M,.fz (aj [bx,by_]),L,.od kvs,a6,a7,a8,a9]=.nx [.fz (.int n'),.fz (.tup (O.map aj)),M,.fz (aj [bx,by_]),L,.od kvs',b6,b7,b8,a9]/\GN kvs'/\kvs'.length<=kvs.length + l.length * 12
 | [],n,kvs,a6,a7,a8,g,_=>⟨n,kvs,a6,a7,a8,rfl,g,by simp⟩
 |i::l,n,kvs,a6,a7,a8,g,hl=>by
  have lo:=hO.le;simp only[cq]at hl;have d1:=vg (m:=n) (n:=36) ⟨by decide,by decide⟩;generalize n / 36=n1 at d1;generalize n % 36=at_ at d1;obtain⟨k1,b8,e1,g1,l1⟩:=Je (a0:=.fz (.int n1)) (P:=.fz (.tup (O.map aj))) (M:=M) (L:=L) (k:=.fz (.int i)) (a9:=a9) (bx:=bx) (by_:=by_) (n:=at_) O kvs a8 hO.pr g (by omega);have st:jy [.fz (.int n),.fz (.tup (O.map aj)),M,.fz (aj [bx,by_]),L,.od kvs,.fz (.int i),a7,a8,a9]=.nx [.fz (.int n1),.fz (.tup (O.map aj)),M,.fz (aj [bx,by_]),L,.od k1,.fz (.int i),.fz (.int at_),b8,a9]:=by unfold jy;refine aX (ρ1:=[.fz (.int n1),.fz (.tup (O.map aj)),M,.fz (aj [bx,by_]),L,.od kvs,.fz (.int i),.fz (.int at_),a8,a9]) (jG (cQ (ao (au rfl) (ao cu aU)) d1) rfl) ?_;exact Dz (au rfl) e1
  obtain⟨n2,k2,c6,c7,c8,e2,g2,l2⟩:=Jf hO (M:=M) (L:=L) (a9:=a9) (bx:=bx) (by_:=by_) l n1 k1 (.fz (.int i)) (.fz (.int at_)) b8 g1 (by omega);refine⟨n2,k2,c6,c7,c8,?_,g2,by simp only[cq];omega⟩;simp only[cb,fU,aR,h_,gS,st];exact e2
theorem Jg{ρ:aH}{j:Nat}{kvs:List (List Int×D)}(hj:ρ[j]?=some (.od kvs))(g:GN kvs)(hl:kvs.length < 4900):oE j ρ=.ok (.lst ((So.cR (kvs.map (·.1))).map aj)):=by unfold oE;rw[hj];show(if kvs.length < 4900/\∀p∈kvs,p.1≠[] then Rs.ok (D.lst ((So.cR (kvs.map (·.1))).map aj)) else .no)=_;rw[if_pos ⟨hl,fun p hp=>(g.pr p.1 (sC hp)).ne⟩]
structure Yd (L:KL):Prop where
 st:gW L
 le:L.length<=73
noncomputable abbrev MB:aH->Ou:=uo (fT (bH yR (aD 9) (fC (.int 0)))) (bO (lK (fA (ak (aD 0) (ak (fC (.int 49)) aZ)) Bj) (ji 2 (bQ (aR 0) (bQ (aR 7) jE))))
        (nu 5 (fC (.bl true)) (fA (ak (bH nY (bH cM (bH gU (aD 3) (fC (.int 0))) (bH wQ (aD 7) (fC (.int 7)))) (fC (.int 1))) (ak (bH nY (bH cM (bH gU (aD 3) (fC (.int 1))) (bH oM (aD 7) (fC (.int 7)))) (fC (.int 1))) aZ)) (bD 2 gD)))) wB
theorem Xp{O:KL}(hO:Good O)(n:Int):∃(A:KL) (n':Int),iw [.int n,.tup (O.map aj),.int 6]=.ok (.tup [.tup (A.map aj),.int n'])/\Yd A:=by
 obtain⟨bx,by_,n2,hb⟩:=adW n;have d3:=vg (m:=n2) (n:=7) ⟨by decide,by decide⟩;have u0:0<=n2 % 7:=l5 _ (by decide);have u1:n2 % 7 < 7:=n9 _ (by decide);generalize n2 / 7=n3 at d3;generalize n2 % 7=lv at d3 u0 u1;obtain⟨V,rfl⟩:∃V:Nat,lv=V:=⟨lv.toNat,by omega⟩
 obtain⟨n4,k4,b6,b7,b8,e4,g4,l4⟩:=Jf hO (M:=.fz (.int 6)) (L:=.fz (.int V)) (a9:=.no) (bx:=bx) (by_:=by_) (cz V) n3 [] .no .no .no .nil (by rw[ke,eI];omega);rw[ke,eI]at l4;have d5:=vg (m:=n4) (n:=4) ⟨by decide,by decide⟩;generalize n4 / 4=n5 at d5;generalize n4 % 4=w at d5;have dY:∀(n6:Int) (k6:List (List Int×D)) (c7:Sl),GN k6->k6.length<=73->∀g:aH->Ou,g [.fz (.int n5),.fz (.tup (O.map aj)),.fz (.int 6),.fz (aj [bx,by_]),.fz (.int V),.od k4,b6,b7,b8,.fz (.int w)]=.nx [.fz (.int n6),.fz (.tup (O.map aj)),.fz (.int 6),.fz (aj [bx,by_]),.fz (.int V),.od k6,b6,c7,b8,.fz (.int w)] ->
   bO g (dz (fA (ak (fA (ak (oE 5) aZ) mC) (ak (aD 0) aZ)) gP)) [.fz (.int n5),.fz (.tup (O.map aj)),.fz (.int 6),.fz (aj [bx,by_]),.fz (.int V),.od k4,b6,b7,b8,.fz (.int w)]=.rt (.tup [.tup ((So.cR (k6.map (·.1))).map aj),.int n6])/\Yd (So.cR (k6.map (·.1))):=fun n6 k6 c7 g6 l6 g e=>by
  refine⟨aX e (gO (cQ (ao (cQ (ao (Jg rfl g6 (by omega)) aU) rfl) (ao (au rfl) aU)) (aaX (by simp)))),gW.sort (L:=k6.map (·.1)) (fun x hx=>g6.pr x hx) g6.nd,by rw[rG,cx];exact l6⟩
 have run:∃(A:KL) (n':Int),iu (aY ["number","piece","most","base","many","cells","k","at","step","way"] [.int n,.tup (O.map aj),.int 6])=.rt (.tup [.tup (A.map aj),.int n'])/\Yd A:=by
  have pre:∀(A:KL) (n':Int),bO MB
    (dz (fA (ak (fA (ak (oE 5) aZ) mC) (ak (aD 0) aZ)) gP)) [.fz (.int n5),.fz (.tup (O.map aj)),.fz (.int 6),.fz (aj [bx,by_]),.fz (.int V),.od k4,b6,b7,b8,.fz (.int w)]=.rt (.tup [.tup (A.map aj),.int n']) ->
    iu (aY ["number","piece","most","base","many","cells","k","at","step","way"] [.int n,.tup (O.map aj),.int 6])=.rt (.tup [.tup (A.map aj),.int n']):=fun A n' h=>by
   unfold iu;refine aX (ρ1:=[.fz (.int n2),.fz (.tup (O.map aj)),.fz (.int 6),.fz (aj [bx,by_]),.no,.no,.no,.no,.no,.no]) (jG (cQ (ao (au rfl) aU) (bU rfl hb)) rfl) ?_;refine aX (ρ1:=[.fz (.int n3),.fz (.tup (O.map aj)),.fz (.int 6),.fz (aj [bx,by_]),.fz (.int V),.no,.no,.no,.no,.no]) (jG (cQ (ao (au rfl) (ao (bC (au rfl) cu jL) aU)) d3) rfl) ?_;refine aX (ρ1:=[.fz (.int n3),.fz (.tup (O.map aj)),.fz (.int 6),.fz (aj [bx,by_]),.fz (.int V),.od [],.no,.no,.no,.no]) rfl ?_;refine aX (sI (JG (N:=V) (au rfl) (by omega) rfl e4)) ?_;exact aX (jG (cQ (ao (au rfl) (ao cu aU)) d5) rfl) h
  by_cases c:w=0
  ·subst c;have d6:=vg (m:=n5) (n:=49) ⟨by decide,by decide⟩;generalize n5 / 49=n6 at d6;generalize n5 % 49=at_ at d6;have v7:wQ (.int at_) (.int 7)=.ok (.int (at_ / 7)):=Nj ⟨by decide,by decide⟩;have r7:oM (.int at_) (.int 7)=.ok (.int (at_ % 7)):=wC (by decide);obtain⟨x',y',hk⟩:=Xo (bx + at_ / 7 - 1) (by_ + at_ % 7 - 1);have lp:=rH k4 [x',y'] (.bl true);have st:MB [.fz (.int n5),.fz (.tup (O.map aj)),.fz (.int 6),.fz (aj [bx,by_]),.fz (.int V),.od k4,b6,b7,b8,.fz (.int 0)]=.nx [.fz (.int n6),.fz (.tup (O.map aj)),.fz (.int 6),.fz (aj [bx,by_]),.fz (.int V),.od (ju k4 [x',y'] (.bl true)),b6,.fz (.int at_),b8,.fz (.int 0)]:=(oh (pq (bC (au rfl) cu rfl)) (aX (ρ1:=[.fz (.int n6),.fz (.tup (O.map aj)),.fz (.int 6),.fz (aj [bx,by_]),.fz (.int V),.od k4,b6,.fz (.int at_),b8,.fz (.int 0)]) (jG (cQ (ao (au rfl) (ao cu aU)) d6) rfl)
    (uE (ks:=[x',y']) cu rfl (cQ (ao (bC (bC (bC (au rfl) cu rfl) (bC (au rfl) cu v7) jL) cu nq) (ao (bC (bC (bC (au rfl) cu rfl) (bC (au rfl) cu r7) jL) cu nq) aU)) (bU rfl hk)) (by omega))))
   obtain⟨h1,h2⟩:=dY n6 (ju k4 [x',y'] (.bl true)) (.fz (.int at_)) (g4.put _ _ _) (by omega) MB st;exact⟨_,_,pre _ _ h1,h2⟩
  ·have st:MB [.fz (.int n5),.fz (.tup (O.map aj)),.fz (.int 6),.fz (aj [bx,by_]),.fz (.int V),.od k4,b6,b7,b8,.fz (.int w)]=.nx [.fz (.int n5),.fz (.tup (O.map aj)),.fz (.int 6),.fz (aj [bx,by_]),.fz (.int V),.od k4,b6,b7,b8,.fz (.int w)]:=cX (pq (bC (au rfl) cu (by rw[qy,decide_eq_false c]))) mG;obtain⟨h1,h2⟩:=dY n5 k4 b7 g4 (by omega) MB st;exact⟨_,_,pre _ _ h1,h2⟩
 obtain⟨A,n',run,hA⟩:=run;exact⟨A,n',by unfold iw;rw[run];rfl,hA⟩
end Ih
namespace Ih
open PySem PySem.Spec PySem.Calls PySem.W L2 Vl So
theorem Fx{A O:KL}:(vZ A O).length<=A.length:=by unfold vZ;exact et (nX _ _) (by rw[cx];exact bz _)
theorem Xq{A O:KL}(hA:gW A):gW (vZ A O):=(hA.afT _).filter _
theorem adX{A O:KL}{p:List Int}(h:p∈vZ A O):Pair p/\∀t∈O,ad p t∈A:=by unfold vZ at h;obtain⟨h1,h2⟩:=f_.mp h;obtain⟨x,_,rfl⟩:=eQ.mp h1;exact⟨uF _ _,fun t ht=>by simpa using kz.mp h2 t ht⟩
theorem Ox{A O:KL}(hA:Yd A)(hO:Good O):jY [sh A false,.tup (O.map aj)]=.ok (sh (vZ A O) false):=by
 have e:=Xk hA.st (by have:=hA.le;omega) hO.st (by have:=hO.le;omega) hO.ne;have run:yq (aY ["shape","piece"] [sh A false,.tup (O.map aj)])=.rt (sh (vZ A O) false):=by unfold yq;refine aX (cX (pq (bC (au rfl) cu rfl)) mG) ?_;exact gO (cQ (ao (cQ (ao (bC (au rfl) cu rfl) (ao (au rfl) aU)) (bU rfl e)) (ao cu aU)) (t2 _ _))
 unfold jY;rw[run];rfl
noncomputable def fm(A:KL)(F:List Int->KL):Mp:=A.map fun x=>(x,(F x).map aj)
theorem Xr{F:List Int->KL}{k:List Int}:∀{A:KL},k∈A->KR (fm A F) k=some ((F k).map aj)
 | [],h=>nomatch h
 |x::A,h=>by
  show(if x=k then some ((F x).map aj) else KR (fm A F) k)=_;by_cases c:x=k
  ·rw[if_pos c,c]
  ·rw[if_neg c];exact Xr ((bP.mp h).resolve_left fun z=>c z.symm)
theorem yZ{F F':List Int->KL}{A:KL}(h:∀x∈A,F x=F' x):fm A F=fm A F':=nI fun x hx=>by rw[h x hx]
theorem Xu{F:List Int->KL}{k p:List Int}:∀{A:KL},A.Nodup->KY (fm A F) k (aj p)=fm A (fun x=>if x=k then F x++[p] else F x)
 | [],_=>rfl
 |x::A,nd=>by
  obtain⟨n1,n2⟩:=k7.mp nd;show(if x=k then (x,(F x).map aj++[aj p])::fm A F else (x,(F x).map aj)::KY (fm A F) k (aj p))=(x,((if x=k then F x++[p] else F x)).map aj)::fm A _;by_cases c:x=k
  ·rw[if_pos c,if_pos c,nV];exact congrArg _ (yZ fun y hy=>by rw[if_neg fun z=>n1 (by rw[c,<- z];exact hy)])
  ·rw[if_neg c,if_neg c,Xu n2]
theorem Jh{S P a4 a5:Sl}:∀(A:KL) (m:Mp) (a3:Sl),A.Nodup->(∀x∈A,x∉m.map (·.1))->m.length + A.length<=1000 ->
  ∃b3,wW 3 (Ig (aD 3)) (A.map aj) [S,P,.no,a3,a4,a5] m=some ([S,P,.no,b3,a4,a5],m++fm A fun _=>[])
 | [],m,a3,_,_,_=>⟨a3,by show some _=some _;rw[show fm [] (fun _=>[])=[] from rfl,i4]⟩
 |x::A,m,a3,nd,hk,hl=>by
  obtain⟨n1,n2⟩:=k7.mp nd;simp only[cq]at hl;have e:Ig (aD 3) [S,P,.no,.fz (aj x),a4,a5] m=some ([S,P,.no,.fz (aj x),a4,a5],m++[(x,[])]):=by unfold Ig;rw[show aD 3 [S,P,.no,.fz (aj x),a4,a5]=.ok (aj x) from rfl];dsimp only;rw[iU];dsimp only;rw[if_pos ⟨by omega,hk x (.head _)⟩]
  obtain⟨b3,e2⟩:=Jh A (m++[(x,[])]) (.fz (aj x)) n2 (fun y hy hm=>by
   rw[nV,dQ]at hm;rcases hm with hm|hm
   ·exact hk y (.tail _ hy) hm
   ·simp only[cb,j4,d_]at hm;subst hm;exact n1 hy) (by rw[dE];simp only[cq,eI];omega)
  refine⟨b3,?_⟩;simp only[cb,wW,h_,gS,e];rw[e2,j9];rfl
noncomputable abbrev HA:aH->Mp->Option (aH×Mp):=Ww (fA (ak (aD 4) (ak (aD 5) aZ)) (bD 2 cI)) (aD 4)
theorem Oz{A:KL}(nd:A.Nodup){S P a3:Sl}{p:List Int}(hp:Pair p):∀(T:KL) (F:List Int->KL) (a5:Sl),(∀t∈T,Pair t/\ad p t∈A)->(∀x,(F x).length + T.length<=100000) ->
  ∃F' b5,wW 5 HA (T.map aj) [S,P,.no,a3,.fz (aj p),a5] (fm A F)=some ([S,P,.no,a3,.fz (aj p),b5],fm A F')/\(∀x,F' x=[]↔F x=[]/\∀t∈T,ad p t≠x)/\∀x,(F' x).length<=(F x).length + T.length
 | [],F,a5,_,_=>⟨F,a5,rfl,fun x=>⟨fun h=>⟨h,fun t ht=>nomatch ht⟩,fun h=>h.1⟩,fun x=>bz _⟩
 |t::T,F,a5,hT,hl=>by
  obtain⟨ht,hm⟩:=hT t (.head _);simp only[cq]at hl;have e:HA [S,P,.no,a3,.fz (aj p),.fz (aj t)] (fm A F)=some ([S,P,.no,a3,.fz (aj p),.fz (aj t)],fm A fun x=>if x=ad p t then F x++[p] else F x):=by unfold HA Ww;rw[show(fA (ak (aD 4) (ak (aD 5) aZ)) (bD 2 cI)) [S,P,.no,a3,.fz (aj p),.fz (aj t)]=.ok (aj (ad p t)) from cQ (ao (au rfl) (ao (au rfl) aU)) (bU rfl (oJ p t hp ht))];dsimp only;rw[iU];dsimp only;rw[Xr hm];dsimp only;rw[show aD 4 [S,P,.no,a3,.fz (aj p),.fz (aj t)]=.ok (aj p) from rfl];dsimp only;rw[if_pos (by rw[cx];have:=hl (ad p t);omega),Xu nd]
  obtain⟨F',b5,e2,q1,q2⟩:=Oz nd (S:=S) (P:=P) (a3:=a3) hp T (fun x=>if x=ad p t then F x++[p] else F x) (.fz (aj t)) (fun u hu=>hT u (.tail _ hu)) (fun x=>by
   have:=hl x;split
   ·rw[dE];simp only[cq,eI];omega
   ·omega)
  refine⟨F',b5,?_,fun x=>?_,fun x=>?_⟩
  ·simp only[cb,wW,h_,gS,e];exact e2
  ·rw[q1 x];by_cases c:x=ad p t
   ·rw[if_pos c];exact⟨fun h=>absurd h.1 (by simp),fun h=>absurd c.symm (h.2 t (.head _))⟩
   ·rw[if_neg c];exact⟨fun h=>⟨h.1,fun u hu=>by
     rcases bP.mp hu with rfl|hu
     ·exact fun z=>c z.symm
     ·exact h.2 u hu⟩,fun h=>⟨h.1,fun u hu=>h.2 u (.tail _ hu)⟩⟩
  ·have:=q2 x;simp only[cq];split at this
   ·rw[dE]at this;simp only[cq,eI]at this;omega
   ·omega
theorem Ji{A O:KL}(nd:A.Nodup)(hO:∀t∈O,Pair t){S a3:Sl}:∀(Q:KL) (F:List Int->KL) (a4 a5:Sl),(∀p∈Q,Pair p/\∀t∈O,ad p t∈A)->(∀x,(F x).length + Q.length * O.length<=100000) ->
  ∃F' b4 b5,wW 4 (nD 5 HA (aD 1)) (Q.map aj) [S,.fz (.tup (O.map aj)),.no,a3,a4,a5] (fm A F)=some ([S,.fz (.tup (O.map aj)),.no,a3,b4,b5],fm A F')/\(∀x,F' x=[]↔F x=[]/\∀p∈Q,∀t∈O,ad p t≠x)
 | [],F,a4,a5,_,_=>⟨F,a4,a5,rfl,fun x=>⟨fun h=>⟨h,fun p hp=>nomatch hp⟩,fun h=>h.1⟩⟩
 |p::Q,F,a4,a5,hQ,hl=>by
  obtain⟨hp,hm⟩:=hQ p (.head _);simp only[cq,Nat.succ_mul]at hl;obtain⟨F1,b5,e1,q1,q2⟩:=Oz nd (S:=S) (P:=.fz (.tup (O.map aj))) (a3:=a3) hp O F a5 (fun t ht=>⟨hO t ht,hm t ht⟩) (fun x=>by have:=hl x;omega);have e:nD 5 HA (aD 1) [S,.fz (.tup (O.map aj)),.no,a3,.fz (aj p),a5] (fm A F)=some ([S,.fz (.tup (O.map aj)),.no,a3,.fz (aj p),b5],fm A F1):=by unfold nD;exact e1
  obtain⟨F',b4,c5,e2,q3⟩:=Ji nd hO (S:=S) (a3:=a3) Q F1 (.fz (aj p)) b5 (fun u hu=>hQ u (.tail _ hu)) (fun x=>by have:=hl x;have:=q2 x;omega);refine⟨F',b4,c5,?_,fun x=>?_⟩
  ·simp only[cb,wW,h_,gS,e];exact e2
  ·rw[q3 x,q1 x];exact⟨fun h=>⟨h.1.1,fun u hu=>by
    rcases bP.mp hu with rfl|hu
    ·exact h.1.2
    ·exact h.2 u hu⟩,fun h=>⟨⟨h.1,h.2 p (.head _)⟩,fun u hu=>h.2 u (.tail _ hu)⟩⟩
theorem Xv(A:KL):eG [sh A false]=.ok .non:=rfl
theorem few{A O:KL}(hA:Yd A)(hO:Good O)(x:List Int):(([]:KL)).length + (vZ A O).length * O.length<=100000:=by have h1:=hA.le;have h2:=hO.le;have lp:=Fx (A:=A) (O:=O);have:(vZ A O).length * O.length<=73 * 12:=Nat.mul_le_mul (by lia) h2;rw[eI];lia
theorem Xw{A P:KL}{F:List Int->KL}{T:D}{b3 b4 b5:Sl}(h0:eG [sh A false]=.ok .non)(e1:wW 3 (Ig (aD 3)) (A.map aj) [.fz (sh A false),.fz T,.no,.no,.no,.no] []=some ([.fz (sh A false),.fz T,.no,b3,.no,.no],fm A fun _=>[]))(e0:jY [sh A false,T]=.ok (sh P false))
  (e2:wW 4 (nD 5 HA (aD 1)) (P.map aj) [.fz (sh A false),.fz T,.no,b3,.no,.no] (fm A fun _=>[])=some ([.fz (sh A false),.fz T,.no,b3,b4,b5],fm A F)):dO [sh A false,T]=.ok (cZ (A.map fun x=>(x,.lst ((F x).map aj)))):=by
 have g1:nD 3 (Ig (aD 3)) (bH gU (aD 0) (fC (.int 0))) [.fz (sh A false),.fz T,.no,.no,.no,.no] []=some ([.fz (sh A false),.fz T,.no,b3,.no,.no],fm A fun _=>[]):=by unfold nD;rw[show bH gU (aD 0) (fC (.int 0)) [.fz (sh A false),.fz T,.no,.no,.no,.no]=.ok (.tup (A.map aj)) from bC (au rfl) cu rfl];exact e1
 have g2:nD 4 (nD 5 HA (aD 1)) (bH gU (fA (ak (aD 0) (ak (aD 1) aZ)) (bD 2 jY)) (fC (.int 0))) [.fz (sh A false),.fz T,.no,b3,.no,.no] (fm A fun _=>[])=some ([.fz (sh A false),.fz T,.no,b3,b4,b5],fm A F):=by unfold nD;rw[show bH gU (fA (ak (aD 0) (ak (aD 1) aZ)) (bD 2 jY)) (fC (.int 0)) [.fz (sh A false),.fz T,.no,b3,.no,.no]=.ok (.tup (P.map aj)) from bC (cQ (ao (au rfl) (ao (au rfl) aU)) (bU rfl e0)) cu rfl];exact e2
 have e3:(fm A F).map (fun p=>(p.1,D.lst p.2))=A.map fun x=>(x,D.lst ((F x).map aj)):=by unfold fm;rw[iF];rfl
 have run:gK (aY ["shape","piece","holders","cell","place","step"] [sh A false,T])=.rt (cZ (A.map fun x=>(x,.lst ((F x).map aj)))):=by unfold gK;refine aX (ρ1:=[.fz (sh A false),.fz T,.no,.no,.no,.no]) (afq (cQ (ao (au rfl) aU) (bU rfl h0))) ?_;unfold Oq;rw[if_pos ⟨rfl,show 2 < 6 by decide⟩];rw[show(List.set ([.fz (sh A false),.fz T,.no,.no,.no,.no]:aH) 2 .no)=[.fz (sh A false),.fz T,.no,.no,.no,.no] from rfl,g1];dsimp only;rw[g2];dsimp only;rw[if_pos (by simp only[cq,eI];decide),e3];generalize (A.map fun x=>(x,D.lst ((F x).map aj)))=kvs;rfl
 unfold dO;rw[run];rfl
theorem Rb{A O:KL}(hA:Yd A)(hO:Good O):∃F:List Int->KL,dO [sh A false,.tup (O.map aj)]=.ok (cZ (A.map fun x=>(x,.lst ((F x).map aj))))/\∀x,F x=[]↔∀p∈vZ A O,∀t∈O,ad p t≠x:=by obtain⟨b3,e1⟩:=Jh (S:=.fz (sh A false)) (P:=.fz (.tup (O.map aj))) (a4:=.no) (a5:=.no) A [] .no hA.st.nd (fun x _ h=>nomatch h) (by have:=hA.le;rw[eI];lia);obtain⟨F,b4,b5,e2,q⟩:=Ji hA.st.nd hO.pr (S:=.fz (sh A false)) (a3:=b3) (vZ A O) (fun _=>[]) .no .no (fun p hp=>adX hp) (few hA hO);exact⟨F,Xw (Xv A) e1 (Ox hA hO) e2,fun x=>by rw[q x];exact⟨fun h=>h.2,fun h=>⟨rfl,h⟩⟩⟩
theorem DK{F:List Int->D}{k:List Int}:∀{A:KL},k∈A->bT (A.map fun x=>(x,F x)) k=some (F k)
 | [],h=>nomatch h
 |x::A,h=>by
  by_cases c:x=k
  ·subst c;unfold bT;rw[cb,List.find?_cons_of_pos (by simp)];rfl
  ·have:=DK (F:=F) ((bP.mp h).resolve_left fun z=>c z.symm);unfold bT at this ⊢;rw[cb,xc (by simpa using c)];exact this
theorem aau(L:KL):yR (.lst (L.map aj)) (.lst [])=.ok (.bl (decide (L=[]))):=by
 have hd:jl (.lst (L.map aj))<=8:=by have:=Ce L;simp only[jl];lia
 rw[ahE hd (by decide)];cases L <;> rfl
noncomputable def bare(A O:KL):KL:=A.filter fun x=>decide (∀p∈vZ A O,∀t∈O,ad p t≠x)
noncomputable def ans(A O:KL):D:=match bare A O with
 | []=>.tup [.str "marks",.tup ((vZ A O).map aj)]
 |x::_=>.tup [.str "bare",aj x]
theorem aaw{A O:KL}(hA:Yd A)(hO:Good O):lU [sh A false,.tup (O.map aj)]=.ok (ans A O):=by
 obtain⟨F,e1,q⟩:=Rb hA hO;have e2:=Ox hA hO;have la:=hA.le;have lb:(bare A O).length<=A.length:=nX _ _;have e3:dZ (aR 0) vM Cu 1 [2] (fL (bH gU (aD 0) (fC (.int 0))) Rk) [.fz (sh A false),.fz (.tup (O.map aj)),.fz (cZ (A.map fun x=>(x,.lst ((F x).map aj)))),.no]=.ok (.lst ((bare A O).map aj)):=by refine rJ (cs:=[.fz (cZ (A.map fun x=>(x,.lst ((F x).map aj))))]) rfl (v_l (bC (au rfl) cu rfl) rfl) (fun k hk=>?_) (fun k hk=>rfl) (by omega);unfold vM;refine pq (bC (bC (au rfl) (au rfl) (Xf (DK hk))) (cQ aU (GC (by simp))) ?_);rw[aau];exact congrArg (fun z=>Rs.ok (D.bl z)) (decide_eq_decide.mpr (q k))
 have run:rO (aY ["shape","piece","holders","bare"] [sh A false,.tup (O.map aj)])=.rt (ans A O):=by
  unfold rO;refine aX (ρ1:=[.fz (sh A false),.fz (.tup (O.map aj)),.fz (cZ (A.map fun x=>(x,.lst ((F x).map aj)))),.no]) (kj (cQ (ao (au rfl) (ao (au rfl) aU)) (bU rfl e1))) ?_;refine aX (ρ1:=[.fz (sh A false),.fz (.tup (O.map aj)),.fz (cZ (A.map fun x=>(x,.lst ((F x).map aj)))),.fz (.lst ((bare A O).map aj))]) (kj e3) ?_;unfold ans;cases c:bare A O with
  |nil =>
   refine aX (cX (pq (bC (cQ (ao (au rfl) aU) rfl) cu rfl)) mG) ?_;exact gO (cQ (ao cu (ao (bC (cQ (ao (au rfl) (ao (au rfl) aU)) (bU rfl e2)) cu rfl) aU)) (t2 _ _))
  |cons x L =>
   have h0:gGt (.int (List.map aj (x::L)).length) (.int 0)=.ok (.bl true):=by rw[Qm];exact congrArg (fun z=>Rs.ok (D.bl z)) (decide_eq_true (by rw[cx,cq];omega))
   refine vf (oh (pq (bC (cQ (ao (au rfl) aU) rfl) cu h0)) ?_);exact gO (cQ (ao cu (ao (bC (au rfl) cu (Bu zR)) aU)) (t2 _ _))
 unfold lU;rw[run];rfl
theorem ago(a b r c:Int):iT [aj [a,b],aj [r,c]]=.ok (aj [a + r,b + c]):=by kernel_rfl
theorem adY(a b r c:Int):jh [aj [a,b],aj [r,c]]=.ok (aj [a - r,b - c]):=by kernel_rfl
theorem Xx{p t:List Int}(hp:Pair p)(ht:Pair t):iT [aj p,aj t]=.ok (aj (ad p t)):=by obtain⟨a,b,rfl⟩:=hp;obtain⟨r,c,rfl⟩:=ht;exact ago a b r c
theorem aax{p t:List Int}(hp:Pair p)(ht:Pair t):jh [aj p,aj t]=.ok (aj (mi p t)):=by obtain⟨a,b,rfl⟩:=hp;obtain⟨r,c,rfl⟩:=ht;exact adY a b r c
theorem ix0{L:KL}(h:L≠[]):gU (.tup (L.map aj)) (.int 0)=.ok (aj (L.headD [])):=by
 cases L with
 |nil=>exact(h rfl).elim
 |cons x L=>simp only[cb,HJ,zR];rfl
theorem aay{O:KL}(hO:Good O):Pair (O.headD []):=by
 cases O with
 |nil=>exact(hO.ne rfl).elim
 |cons x L=>exact hO.pr x (.head _)
theorem Lp{A O:KL}(hO:Good O){kvs:List (List Int×D)}(hk:∀k,k∈kvs.map (·.1)↔k∈A){x:List Int}(hx:Pair x){W:KL}(lW:W.length<=1000){a5:Sl} :
  ∃b5,gM [.fz (.tup (A.map aj)),.fz (.tup (O.map aj)),.fz (cZ kvs),.fz (aj x),.ow (W.map aj),a5]=.nx [.fz (.tup (A.map aj)),.fz (.tup (O.map aj)),.fz (cZ kvs),.fz (aj x),.ow ((W++[mi x (O.headD [])].filter fun p=>O.all fun t=>decide (ad p t∈A)).map aj),b5]:=by
 have hm:=uF x (O.headD []);have cp:dZ (aR 0) (fun _=>.ok true) jP 1 [2,5] (fL (aD 1) Rk) [.fz (.tup (A.map aj)),.fz (.tup (O.map aj)),.fz (cZ kvs),.fz (aj x),.ow (W.map aj),.fz (aj (mi x (O.headD [])))]=.ok (.lst (O.map fun t=>.bl (decide (ad (mi x (O.headD [])) t∈A)))):=by refine zT (cs:=[.fz (cZ kvs),.fz (aj (mi x (O.headD [])))]) rfl (v_l (au rfl) rfl) (fun t ht=>?_) (by have:=hO.le;omega);unfold jP;refine bC (cQ (ao (au rfl) (ao (au rfl) aU)) (bU rfl (Xx hm (hO.pr t ht)))) (au rfl) ?_;rw[aak];exact congrArg (fun z=>Rs.ok (D.bl z)) (decide_eq_decide.mpr (hk _))
 have st:gQ 5 (fA (ak (aD 3) (ak (bH gU (aD 1) (fC (.int 0))) aZ)) (bD 2 jh)) [.fz (.tup (A.map aj)),.fz (.tup (O.map aj)),.fz (cZ kvs),.fz (aj x),.ow (W.map aj),a5]=.nx [.fz (.tup (A.map aj)),.fz (.tup (O.map aj)),.fz (cZ kvs),.fz (aj x),.ow (W.map aj),.fz (aj (mi x (O.headD [])))] :=
  kj (cQ (ao (au rfl) (ao (bC (au rfl) cu (ix0 hO.ne)) aU)) (bU rfl (aax hx (aay hO))))
 refine⟨.fz (aj (mi x (O.headD []))),?_⟩;unfold gM;refine aX st ?_;have al:=KQ O (fun t=>decide (ad (mi x (O.headD [])) t∈A));generalize mi x (O.headD [])=p at *;cases c:(O.all fun t=>decide (ad p t∈A)) with
 |true =>
  rw[c]at al;have e:[p].filter (fun p=>O.all fun t=>decide (ad p t∈A))=[p]:=by rw[List.filter_cons_of_pos (by exact c)];rfl
  rw[e,nV];exact oh (pq (cQ (ao cp aU) al)) (afW rfl (au rfl) (by omega))
 |false =>
  rw[c]at al;have e:[p].filter (fun p=>O.all fun t=>decide (ad p t∈A))=[]:=by rw[List.filter_cons_of_neg (by rw[c];simp)];rfl
  rw[e,i4];exact cX (pq (cQ (ao cp aU) al)) mG
theorem Lq{A O:KL}(hA:Yd A)(hO:Good O):fK [.tup (A.map aj),.tup (O.map aj)]=.ok (.lst ((vZ A O).map aj)):=by
 have la:=hA.le;obtain⟨ρ1,e1,kvs,a3,rfl,km⟩:=oX (h:=aR 3) (g:=jO) aj (fun done ρ=>∃kvs a3,ρ=[.fz (.tup (A.map aj)),.fz (.tup (O.map aj)),.od kvs,a3,.no,.no]/\Km kvs done.length (fun k=>k∈done)) (L:=A) (ρ:=[.fz (.tup (A.map aj)),.fz (.tup (O.map aj)),.od [],.no,.no,.no]) ⟨_,_,rfl,Km.nil.mono (bz _) (fun k=>by simp)⟩ (by
  rintro x done ρ hx hd ⟨kvs,a3,rfl,km⟩;obtain⟨u,v,rfl⟩:=hA.st.pr x hx;have l:=km.le;refine⟨_,[.fz (.tup (A.map aj)),.fz (.tup (O.map aj)),.od (ju kvs [u,v] (.bl true)),.fz (aj [u,v]),.no,.no],rfl,?_,_,_,rfl,(km.put u v (.bl true) (M':=fun k=>k∈done++[[u,v]]) fun k=>by rw[dQ,d_];exact or_comm).mono (by rw[dE];exact bz _) (fun k=>Iff.rfl)⟩;unfold jO;exact uE (ks:=[u,v]) cu rfl (au rfl) (by omega))
 obtain⟨ρ2,e2,W,b3,b5,rfl,hW⟩:=oX (h:=aR 3) (g:=gM) aj (fun done ρ=>∃(W:KL) (b3 b5:Sl),ρ=[.fz (.tup (A.map aj)),.fz (.tup (O.map aj)),.fz (cZ kvs),b3,.ow (W.map aj),b5]/\W=(done.map fun x=>mi x (O.headD [])).filter fun p=>O.all fun t=>decide (ad p t∈A)) (L:=A) (ρ:=[.fz (.tup (A.map aj)),.fz (.tup (O.map aj)),.fz (cZ kvs),a3,.ow [],.no]) ⟨[],_,_,rfl,rfl⟩ (by
  rintro x done ρ hx hd ⟨W,b3,b5,rfl,hW⟩;have lW:W.length<=1000:=by rw[hW];refine et (nX _ _) ?_;rw[cx];omega
  obtain⟨c5,e⟩:=Lp hO (A:=A) (kvs:=kvs) km.iff (hA.st.pr x hx) lW (a5:=b5);refine⟨_,_,rfl,e,_,_,_,rfl,?_⟩;rw[hW,nV,List.filter_append];rfl)
 have run:iJ (aY ["cells","piece","held","cell","found","place"] [.tup (A.map aj),.tup (O.map aj)])=.rt (.lst ((vZ A O).map aj)):=by unfold iJ;refine aX (ρ1:=[.fz (.tup (A.map aj)),.fz (.tup (O.map aj)),.od [],.no,.no,.no]) rfl ?_;refine aX (sI (Dz (au rfl) e1)) ?_;refine aX (ρ1:=[.fz (.tup (A.map aj)),.fz (.tup (O.map aj)),.od kvs,a3,.ow [],.no]) rfl ?_;refine aX (sI (Dz (au rfl) e2)) ?_;rw[hW];rfl
 unfold fK;rw[run];rfl
theorem Rc{P O:KL}(hP:∀p∈P,Pair p)(lP:P.length<=73)(hO:Good O):∃B:KL,gG [.lst (P.map aj),.tup (O.map aj)]=.ok (.lst (B.map aj))/\(∀x∈B,Pair x)/\B.length<=1000/\∀x,x∈B↔∃p∈P,∃t∈O,ad p t=x:=by
 have lo:=hO.le;obtain⟨ρ1,e1,kvs,a3,a4,rfl,km⟩:=oX (h:=aR 3) (g:=lD) aj (fun done ρ=>∃kvs a3 a4,ρ=[.fz (.lst (P.map aj)),.fz (.tup (O.map aj)),.od kvs,a3,a4]/\Km kvs (done.length * 12) (fun k=>∃p∈done,∃t∈O,ad p t=k)) (L:=P) (ρ:=[.fz (.lst (P.map aj)),.fz (.tup (O.map aj)),.od [],.no,.no]) ⟨_,_,_,rfl,Km.nil.mono (fR _) (fun k=>by simp)⟩ (by
  rintro p done ρ hp hd ⟨kvs,a3,a4,rfl,km⟩;have l:=km.le;obtain⟨ρ2,e2,Jd,b4,rfl,km2⟩:=oX (h:=aR 4) (g:=lC) aj (fun dn ρ=>∃Jd b4,ρ=[.fz (.lst (P.map aj)),.fz (.tup (O.map aj)),.od Jd,.fz (aj p),b4]/\Km Jd (done.length * 12 + dn.length) (fun k=>(∃t∈dn,ad p t=k)∨∃p∈done,∃t∈O,ad p t=k)) (L:=O) (ρ:=[.fz (.lst (P.map aj)),.fz (.tup (O.map aj)),.od kvs,.fz (aj p),a4]) ⟨_,_,rfl,km.mono (bz _) (fun k=>by simp)⟩ (by
   rintro t dn ρ ht hdn ⟨Jd,b4,rfl,km2⟩;have l2:=km2.le;obtain⟨u,v,huv⟩:=Ek p t;refine⟨_,[.fz (.lst (P.map aj)),.fz (.tup (O.map aj)),.od (ju Jd (ad p t) (.bl true)),.fz (aj p),.fz (aj t)],rfl,?_,_,_,rfl,?_⟩
   ·unfold lC;exact uE (ks:=ad p t) cu rfl (cQ (ao (au rfl) (ao (au rfl) aU)) (bU rfl (Xx (hP p hp) (hO.pr t ht)))) (by omega)
   ·rw[huv];refine(km2.put u v (.bl true) (M':=fun k=>(∃t'∈dn++[t],ad p t'=k)∨∃p∈done,∃t∈O,ad p t=k) fun k=>?_).mono (by rw[dE];exact bz _) (fun k=>Iff.rfl);rw[<- huv];constructor
    ·rintro(⟨t',h,e⟩|h)
     ·rcases dQ.mp h with h|h
      ·exact .inr (.inl ⟨t',h,e⟩)
      ·rw[d_.mp h]at e;exact .inl e.symm
     ·exact .inr (.inr h)
    ·rintro(h|⟨t',h,e⟩|h)
     ·exact .inl ⟨t,fg _ (d_.mpr rfl),h.symm⟩
     ·exact .inl ⟨t',kQ _ h,e⟩
     ·exact .inr h)
  refine⟨_,[.fz (.lst (P.map aj)),.fz (.tup (O.map aj)),.od Jd,.fz (aj p),b4],rfl,?_,_,_,_,rfl,?_⟩
  ·unfold lD;exact Dz (au rfl) e2
  ·refine km2.mono (by rw[dE,tz,Nat.succ_mul];omega) (fun k=>?_);constructor
   ·rintro⟨q,h,t,ht,e⟩;rcases dQ.mp h with h|h
    ·exact .inr ⟨q,h,t,ht,e⟩
    ·rw[d_.mp h]at e;exact .inl ⟨t,ht,e⟩
   ·rintro(⟨t,ht,e⟩|⟨q,h,t,ht,e⟩)
    ·exact⟨p,fg _ (d_.mpr rfl),t,ht,e⟩
    ·exact⟨q,kQ _ h,t,ht,e⟩)
 have l:=km.le;refine⟨cR (kvs.map (·.1)),?_,fun x hx=>km.gn.pr x (rF.mp hx),by rw[rG,cx];omega,fun x=>by rw[rF];exact km.iff x⟩;have run:jD (aY ["found","piece","cells","mark","step"] [.lst (P.map aj),.tup (O.map aj)])=.rt (.lst ((cR (kvs.map (·.1))).map aj)):=by unfold jD;refine aX (ρ1:=[.fz (.lst (P.map aj)),.fz (.tup (O.map aj)),.od [],.no,.no]) rfl ?_;refine aX (sI (Dy (au rfl) e1)) ?_;exact gO (Jg rfl km.gn (by omega))
 unfold gG;rw[run];rfl
theorem aaz{W:KL}(h:W≠[]):Ca [.lst (W.map aj)]=.ok (aj (rY W)):=by simp only[Ca,BW];rw[if_pos (w_.mpr h)]
theorem aaA{x:List Int}{L:KL}(h:gW (x::L)):rY (x::L)=x:=by
 obtain⟨m1,m2⟩:=Ei (ks:=x::L) (by simp);have m3:=m2 x (.head _);rcases bP.mp m1 with e|m1
 ·exact e
 ·have p:=h.pw;have lt:=(gL.mp p).1 _ m1;rw[(zX (h.pr x (.head _)) (h.pr _ (.tail _ m1))).mpr lt]at m3;cases m3
theorem Xy{L:KL}(h:gW L):cR L=L:=gW.ext (.sort h.pr h.nd) h fun x=>rF
theorem aaB(L:KL):Zd (.lst (L.map aj)) (.lst [])=.ok (.bl (!decide (L=[]))):=by
 have hd:jl (.lst (L.map aj))<=8:=by have:=Ce L;simp only[jl];lia
 rw[ahF hd (by decide)];cases L <;> rfl
theorem agp{A O:KL}(hA:Yd A)(hO:Good O):mV [.tup (A.map aj),.tup (O.map aj)]=.ok (ans A O):=by
 have la:=hA.le;have lp:=Fx (A:=A) (O:=O);have pa:=Xq (A:=A) (O:=O) hA.st;have e1:=Lq hA hO;obtain⟨Br,e2,hB,lB,hm⟩:=Rc pa.pr (by omega) hO;obtain⟨ρ1,e3,kvs,a4,rfl,km⟩:=oX (h:=aR 4) (g:=qT) aj (fun done ρ=>∃kvs a4,ρ=[.fz (.tup (A.map aj)),.fz (.tup (O.map aj)),.fz (.lst ((vZ A O).map aj)),.od kvs,a4,.no]/\Km kvs done.length (fun k=>k∈done)) (L:=Br) (ρ:=[.fz (.tup (A.map aj)),.fz (.tup (O.map aj)),.fz (.lst ((vZ A O).map aj)),.od [],.no,.no]) ⟨_,_,rfl,Km.nil.mono (bz _) (fun k=>by simp)⟩ (by
  rintro x done ρ hx hd ⟨kvs,a4,rfl,km⟩;obtain⟨u,v,rfl⟩:=hB x hx;have l:=km.le;refine⟨_,[.fz (.tup (A.map aj)),.fz (.tup (O.map aj)),.fz (.lst ((vZ A O).map aj)),.od (ju kvs [u,v] (.bl true)),.fz (aj [u,v]),.no],rfl,?_,_,_,rfl,(km.put u v (.bl true) (M':=fun k=>k∈done++[[u,v]]) fun k=>by rw[dQ,d_];exact or_comm).mono (by rw[dE];exact bz _) (fun k=>Iff.rfl)⟩;unfold qT;exact uE (ks:=[u,v]) cu rfl (au rfl) (by omega))
 have e4:dZ (aR 0) qU wI 1 [3] (fL (aD 0) Rk) [.fz (.tup (A.map aj)),.fz (.tup (O.map aj)),.fz (.lst ((vZ A O).map aj)),.fz (cZ kvs),a4,.no]=.ok (.lst ((bare A O).map aj)):=by refine rJ (cs:=[.fz (cZ kvs)]) rfl (v_l (au rfl) rfl) (fun k hk=>?_) (fun k hk=>rfl) (by omega);unfold qU;refine pq (bC (au rfl) (au rfl) ?_);rw[Xg,mK];refine congrArg (fun z=>Rs.ok (D.bl z)) ?_;rw[<- decide_not];refine decide_eq_decide.mpr ?_;rw[km.iff k,hm k];exact⟨fun h p hp t ht e=>h ⟨p,hp,t,ht,e⟩,fun h ⟨p,hp,t,ht,e⟩=>h p hp t ht e⟩
 have ba:gW (bare A O):=hA.st.filter _;have run:pP (aY ["cells","piece","found","brought","cell","bare"] [.tup (A.map aj),.tup (O.map aj)])=.rt (ans A O):=by
  unfold pP;refine aX (ρ1:=[.fz (.tup (A.map aj)),.fz (.tup (O.map aj)),.fz (.lst ((vZ A O).map aj)),.no,.no,.no]) (kj (cQ (ao (au rfl) (ao (au rfl) aU)) (bU rfl e1))) ?_;refine aX (ρ1:=[.fz (.tup (A.map aj)),.fz (.tup (O.map aj)),.fz (.lst ((vZ A O).map aj)),.od [],.no,.no]) rfl ?_;refine aX (sI (Dy (cQ (ao (au rfl) (ao (au rfl) aU)) (bU rfl e2)) e3)) ?_;show bO _ _ [.fz (.tup (A.map aj)),.fz (.tup (O.map aj)),.fz (.lst ((vZ A O).map aj)),.fz (cZ kvs),a4,.no]=_;refine aX (ρ1:=[.fz (.tup (A.map aj)),.fz (.tup (O.map aj)),.fz (.lst ((vZ A O).map aj)),.fz (cZ kvs),a4,.fz (.lst ((bare A O).map aj))]) (kj e4) ?_;have nn:=aaB (bare A O);unfold ans;cases c:bare A O with
  |nil =>
   rw[c]at nn;refine aX (cX (pq (bC (au rfl) (cQ aU (GC (by simp))) nn)) mG) ?_;refine gO (cQ (ao cu (ao (cQ (ao (cQ (ao (au rfl) aU) (Wu (by omega) pa.pr)) aU) rfl) aU)) ?_);rw[Xy pa];exact t2 _ _
  |cons x L =>
   rw[c]at nn ba;refine vf (oh (pq (bC (au rfl) (cQ aU (GC (by simp))) nn)) ?_);refine gO (cQ (ao cu (ao (cQ (ao (au rfl) aU) (aaz (by simp))) aU)) ?_);rw[aaA ba];exact t2 _ _
 unfold mV;rw[run];rfl
theorem qX{fa fb:aH->Rs D}{ρ:aH}{r:Rs D}(h1:fa ρ=.ok (.bl true))(h2:fb ρ=r):pW fa fb ρ=r:=by unfold pW;rw[h1];exact h2
theorem Jj:∀ds:List D,Eh ds ds=ds.map fun d=>.tup [d,d]
 | []=>rfl
 |d::ds=>by have:=Jj ds;unfold Eh at this ⊢;rw[wt,cb,cb,this]
theorem Xz(n:Nat)(x:Int):bN (n + 1) [.int x,.int x]=.ok (.bl true):=by
 have e:yR (.int x) (.int x)=.ok (.bl true):=by rw[qy,decide_eq_true rfl]
 have run:cL (bN n) (aY ["found","due"] [.int x,.int x])=.rt (.bl true):=by unfold cL;refine aX (cX (pq (bC (au rfl) cu rfl)) mG) ?_;refine aX (cX (pq (Gz (au rfl) rfl)) mG) ?_;exact vf (oh (pq (Gz (au rfl) rfl)) (gO (qX (Gz (au rfl) rfl) (qX rfl (bC (au rfl) (au rfl) e)))))
 show dY (cL (bN n) (aY ["found","due"] [.int x,.int x]))=_;rw[run];rfl
theorem Jk(n:Nat)(x:Str)(e:yR (.str x) (.str x)=.ok (.bl true)):bN (n + 1) [.str x,.str x]=.ok (.bl true):=by
 have run:cL (bN n) (aY ["found","due"] [.str x,.str x])=.rt (.bl true):=by unfold cL;refine aX (cX (pq (bC (au rfl) cu rfl)) mG) ?_;refine aX (cX (pq (Gz (au rfl) rfl)) mG) ?_;refine aX (cX (pq (Gz (au rfl) rfl)) mG) ?_;exact vf (oh (pq (Gz (au rfl) rfl)) (gO (qX (Gz (au rfl) rfl) (bC (au rfl) (au rfl) e))))
 show dY (cL (bN n) (aY ["found","due"] [.str x,.str x]))=_;rw[run];rfl
theorem Rf{n:Nat}{ds:List D}{ρ:aH}{fi:aH->Rs (List D)}(hl:ds.length<=1000)(hs:∀d∈ds,bN n [d,d]=.ok (.bl true))(hi:fi ρ=.ok (Eh ds ds)) :
  dZ (ji 2 (bQ (aR 0) (bQ (aR 1) jE))) (fun _=>.ok true) (uK (bN n)) 2 [] fi ρ=.ok (.lst (ds.map fun _=>.bl true)):=by
 refine JH hi ?_ (by rw[cx];omega);rw[Jj];exact vA (fun ρ=>∃a b,ρ=[a,b]) (fun d=>.tup [d,d]) (fun _=>.bl true) ⟨_,_,rfl⟩ (by
  rintro d hd ρ ⟨a,b,rfl⟩;exact⟨_,rfl,cQ (ao (au rfl) (ao (au rfl) aU)) (bU rfl (hs d hd)),_,_,rfl⟩)
theorem uM{n:Nat}{ds:List D}(hl:ds.length<=1000)(hs:∀d∈ds,bN n [d,d]=.ok (.bl true)):bN (n + 1) [.tup ds,.tup ds]=.ok (.bl true):=by
 have cp:=Rf (ρ:=[.fz (.tup ds),.fz (.tup ds)]) (fi:=fL2 (ak (aD 0) (ak (aD 1) aZ)) asZ) hl hs (by show(if ds.length=ds.length then Rs.ok (Eh ds ds) else .no)=_;rw[if_pos rfl]);have run:cL (bN n) (aY ["found","due"] [.tup ds,.tup ds])=.rt (.bl true):=by unfold cL;refine aX (cX (pq (bC (au rfl) cu rfl)) mG) ?_;refine aX (cX (pq (Gz (au rfl) rfl)) mG) ?_;refine aX (cX (pq (Gz (au rfl) rfl)) mG) ?_;refine aX (cX (pq (Gz (au rfl) rfl)) mG) ?_;refine aX (cX (acN (Ni (pq (Gz (au rfl) rfl)) (Ub (t:=true) (pq (Gz (au rfl) rfl)))) (Nh (pq (Gz (au rfl) rfl)))) mG) ?_;refine gO ?_;have e1:bH yR (fA (ak (aD 0) aZ) vd) (fA (ak (aD 1) aZ) vd) (aY ["found","due"] [.tup ds,.tup ds])=.ok (.bl true):=bC (cQ (ao (au rfl) aU) vq) (cQ (ao (au rfl) aU) vq) (by rw[qy,decide_eq_true rfl]);exact qX e1 (cQ (ao cp aU) (Ky ds))
 show dY (cL (bN n) (aY ["found","due"] [.tup ds,.tup ds]))=_;rw[run];rfl
theorem XC(n:Nat){ks:List Int}(hp:Pair ks):bN (n + 2) [aj ks,aj ks]=.ok (.bl true):=by obtain⟨x,y,rfl⟩:=hp;refine uM (n:=n + 1) (ds:=[x,y].map D.int) (by simp) fun d hd=>?_;obtain⟨z,_,rfl⟩:=eQ.mp hd;exact Xz n z
theorem XD(ns:List Int)(k:Nat):∃z:Int,eH [.lst (ns.map D.int),.int k]=.ok (.int z):=by
 by_cases h:k < ns.length
 ·have ix:gU (.lst (ns.map D.int)) (.int k)=.ok (.int ns[k]):=Bu (by
   unfold xR Pz;rw[if_pos (by omega),if_pos (by rw[cx];omega)];simp[du h])
  refine⟨ns[k],?_⟩;have run:jg (aY ["script","k"] [.lst (ns.map D.int),.int k])=.rt (.int ns[k]):=by unfold jg;exact vf (oh (pq (bC (au rfl) (cQ (ao (au rfl) aU) zQ) (by rw[Ue,decide_eq_true (by rw[cx];omega)]))) (gO (bC (au rfl) (au rfl) ix)))
  unfold eH;rw[run];rfl
 ·refine⟨0,?_⟩;have run:jg (aY ["script","k"] [.lst (ns.map D.int),.int k])=.rt (.int 0):=by unfold jg;exact aX (cX (pq (bC (au rfl) (cQ (ao (au rfl) aU) zQ) (by rw[Ue,decide_eq_false (by rw[cx];omega)]))) mG) (gO cu)
  unfold eH;rw[run];rfl
theorem XF{fa:aH->Rs D}{ρ:aH}{i:Nat}{e:Str}{n:Int}(h:fa ρ=.ex e n):gQ i fa ρ=.ex e n ρ:=by unfold gQ;rw[h];rfl
theorem XH{A O:KL}(hA:Yd A):bN 4 [ans A O,ans A O]=.ok (.bl true):=by
 have la:=hA.le;have lp:=Fx (A:=A) (O:=O);unfold ans;cases c:bare A O with
 |nil =>
  refine uM (by simp) fun d hd=>?_;rcases bP.mp hd with rfl|hd
  ·exact Jk 2 _ rfl
  ·rw[d_.mp hd];refine uM (by rw[cx];omega) fun d hd=>?_;obtain⟨k,hk,rfl⟩:=eQ.mp hd;exact XC 0 ((Xq hA.st).pr k hk)
 |cons x L =>
  have hx:x∈bare A O:=by rw[c];exact .head _
  refine uM (by simp) fun d hd=>?_;rcases bP.mp hd with rfl|hd
  ·exact Jk 2 _ rfl
  ·rw[d_.mp hd];exact XC 1 (hA.st.pr x (f_.mp hx).1)
theorem aaC(A:KL):eG [sh A true]=.ex "Endless" 0:=rfl
theorem XJ(A:KL)(P:D):dO [sh A true,P]=.ex "Endless" 0:=by
 have run:∃ρ,gK (aY ["shape","piece","holders","cell","place","step"] [sh A true,P])=.ex "Endless" 0 ρ:=by unfold gK;exact⟨_,Ua (GD (cQ (ao (au rfl) aU) (bU rfl (aaC A))))⟩
 obtain⟨ρ,run⟩:=run;unfold dO;rw[run];rfl
theorem Rg(A:KL)(P:D):lU [sh A true,P]=.ex "Endless" 0:=by
 have run:∃ρ,rO (aY ["shape","piece","holders","bare"] [sh A true,P])=.ex "Endless" 0 ρ:=by unfold rO;exact⟨_,Ua (XF (cQ (ao (au rfl) (ao (au rfl) aU)) (bU rfl (XJ A P))))⟩
 obtain⟨ρ,run⟩:=run;unfold lU;rw[run];rfl
theorem Rh(A:KL)(P:D):gF [sh A true,P]=.ok (.bl true):=by
 have run:jC (aY ["shape","piece","kind","e"] [sh A true,P])=.rt (.bl true):=by unfold jC;refine aX (ρ1:=[.fz (sh A true),.fz P,.fz .non,.no]) (kj cu) ?_;refine aX (ρ1:=[.fz (sh A true),.fz P,.fz (.su "Endless" 0),.no]) (Uc (GD (cQ (ao (au rfl) (ao (au rfl) aU)) (bU rfl (Rg A P)))) (by decide+kernel) rfl) ?_;refine aX (cX (pq (Gz (au rfl) (by kernel_rfl))) mG) ?_;exact gO (qX (Gz (au rfl) (by kernel_rfl)) (Gz (au rfl) (by kernel_rfl)))
 unfold gF;rw[run];rfl
theorem aaD{O:KL}(hO:Good O)(c:Int)(S a2 a4:Sl):∃b2 b4,yr [S,.fz (.tup (O.map aj)),a2,.fz (.int c),a4]=.nx [S,.fz (.tup (O.map aj)),b2,.fz (.int c),b4]:=by
 obtain⟨n,e0⟩:=Xn c 2 ⟨by decide,by decide⟩;obtain⟨A,m,e1,hA⟩:=Xp hO n;have e2:=Rh A (.tup (O.map aj));have e3:=aaw hA hO;have e4:=agp hA hO;have e5:=XH (O:=O) hA;have md:=wC (m:=m) (n:=6) (by decide);generalize m % 6=r at md;refine⟨.fz (.int m),.fz (.tup (A.map aj)),?_⟩;unfold yr;refine aX (ρ1:=[S,.fz (.tup (O.map aj)),.fz (.int m),.fz (.int c),.fz (.tup (A.map aj))]) (jG (cQ (ao (cQ (ao (au rfl) (ao cu aU)) (bU rfl e0)) (ao (au rfl) (ao cu aU))) (bU rfl e1)) rfl) ?_;refine aX (ρ1:=[S,.fz (.tup (O.map aj)),.fz (.int m),.fz (.int c),.fz (.tup (A.map aj))]) ?_ ?_
 ·have q:=qy (m:=r) (n:=1);cases h:decide (r=1) with
  |true =>
   rw[h]at q;exact cX (Ni (pq (bC (bC (au rfl) cu md) cu q)) (Ub (t:=true) (pq (cQ (ao (cQ (ao (au rfl) (ao cu aU)) (t2 _ _)) (ao (au rfl) aU)) (bU rfl e2))))) mG
  |false =>
   rw[h]at q;exact cX (Nh (pq (bC (bC (au rfl) cu md) cu q))) mG
 ·exact cX (Ub (t:=true) (pq (cQ (ao (cQ (ao (cQ (ao (au rfl) (ao cu aU)) (t2 _ _)) (ao (au rfl) aU)) (bU rfl e3)) (ao (cQ (ao (au rfl) (ao (au rfl) aU)) (bU rfl e4)) aU)) (bU rfl e5)))) mG
theorem XM{ns:List Int}{a c:Option Int}:∃ms:List Int,Ah (ns.map D.int) a c=ms.map D.int/\ms.length<=ns.length:=by
 have h:∀d∈Ah (ns.map D.int) a c,∃x:Int,d=.int x:=fun d hd=>by unfold Ah at hd;obtain⟨x,_,rfl⟩:=eQ.mp (List.mem_of_mem_drop (rh hd));exact⟨x,rfl⟩
 have l:(Ah (ns.map D.int) a c).length<=ns.length:=by unfold Ah;rw[j3,mB,cx];omega
 generalize Ah (ns.map D.int) a c=ds at h l;refine⟨ds.map fun d=>match d with|.int x=>x|_=>0,?_,by rw[cx];exact l⟩;rw[iF];refine(List.map_id ds).symm.trans (nI fun d hd=>?_);obtain⟨x,rfl⟩:=h d hd;rfl
theorem aiu{f:aH->Rs D}{lo hi:aH->Rs (Option Int)}{ρ:aH}{ds:List D}{a c:Option Int}(hf:f ρ=.ok (.lst ds))(hl:lo ρ=.ok a)(hh:hi ρ=.ok c):fSl f lo hi ρ=.ok (.lst (Ah ds a c)):=by unfold fSl;rw[hf];show(lo ρ).bind _=_;rw[hl];show(hi ρ).bind _=_;rw[hh];rfl
theorem XQ(ns:List Int)(hn:ns.length<=63):Ov [.lst (ns.map D.int)]=.ok (.bl true):=by
 obtain⟨c0',ec0⟩:=XD ns 0;obtain⟨c1',ec1⟩:=XD ns 1;obtain⟨d0,ed0⟩:=Xn c0' 1 ⟨by decide,by decide⟩;obtain⟨n1,O,ep,hO⟩:=aas d0;obtain⟨ms,em,lm⟩:=XM (ns:=ns) (a:=some 2) (c:=some 22)
 let S:Sl:=.fz (.lst (ns.map D.int))
 obtain⟨ρ1,e1,b2,b3,b4,rfl⟩:=oX (h:=aR 3) (g:=yr) D.int (fun done ρ=>∃b2 b3 b4,ρ=[S,.fz (.tup (O.map aj)),b2,b3,b4]) (L:=c1'::ms) (ρ:=[S,.fz (.tup (O.map aj)),.fz (.int n1),.no,.no]) ⟨_,_,_,rfl⟩ (by
  rintro c done ρ hc hd ⟨b2,b3,b4,rfl⟩;obtain⟨c2,c4,e⟩:=aaD hO c S b2 b4;exact⟨_,_,rfl,e,_,_,_,rfl⟩)
 have it:bH cM (fA (ak (fA (ak (aD 0) (ak (fC (.int 1)) aZ)) (bD 2 eH)) aZ) wO) (fSl (aD 0) (fP (fC (.int 2))) (fP (fC (.int 22)))) [S,.fz (.tup (O.map aj)),.fz (.int n1),.no,.no]=.ok (.lst ((c1'::ms).map D.int)):=by refine bC (cQ (ao (cQ (ao (au rfl) (ao cu aU)) (bU rfl ec1)) aU) (GC (by simp))) (aiu (au rfl) rfl rfl) ?_;rw[em];exact Ql (by rw[cx];simp only[cq,eI];omega)
 have run:Ot (aY ["script","piece","number","cell","cells"] [.lst (ns.map D.int)])=.rt (.bl true):=by unfold Ot;refine aX (ρ1:=[S,.fz (.tup (O.map aj)),.fz (.int n1),.no,.no]) (jG (cQ (ao (cQ (ao (cQ (ao (au rfl) (ao cu aU)) (bU rfl ec0)) (ao cu aU)) (bU rfl ed0)) aU) (bU rfl ep)) rfl) ?_;exact aX (sI (Dy it e1)) (gO cu)
 unfold Ov;rw[run];rfl
end Ih
open PySem PySem.W PyProof.Rows
namespace PySem.W.Fast
def tw17237377128884761278:=0
def tw9210651017006592458:=0
def tw3030769763697989203:=0
def tw4688422003839650050:=0
def tw17133350935620701455:=0
def tw14339809296661042209:=0
def tw3492809439781154600:=0
def tw16976966885155223249:=0
def tw2887441944201099692:=0
def tw14391384855001630363:=0
def tw601418303303827272:=0
def tw16286736741593084808:=0
def tw9513765046596495821:=0
def tw13022815645491471685:=0
def tw8768607072776355351:=0
def tw16501705223202469664:=0
def tw4819926361162409414:=0
def tw7804124901594185327:=0
def tw10683710475559107976:=0
def tw5168368930240894073:=0
def tw12349337163838193292:=0
def tw14707009681998135311:=0
def tw6356196721060288892:=0
def tw18102048381764800306:=0
def tw7075372078568088046:=0
def tw5944543305930700287:=0
def tw4037414822601490367:=0
def tw1318540266355114483:=0
def tw6113415488846790873:=0
def tw5902919291785288371:=0
def tw8748171224314879398:=0
def tw12626644976297607788:=0
def tw10246296811137331315:=0
def tw12442072105427950551:=0
def tw143202738769331097:=0
def tw14330404915185428776:=0
def tw15735183618860174641:=0
def tw3627615452482614183:=0
def tw412506437674804435:=0
def tw6464193635401042825:=0
def tw10278150525806518838:=0
def tw1961455850867973465:=0
def tw12389287290525711859:=0
def tw7744851746899058606:=0
def tw1331436312893721244:=0
def tw11732719384689865843:=0
def tw17342178623687650139:=0
def tw16533061857386506591:=0
def tw2329161456819420530:=0
def tw12933594817139014404:=0
def tw3020273591800676832:=0
def tw10947967256563876806:=0
def tw13191826298807154247:=0
def tw1303181023798834247:=0
def tw16650454430300636915:=0
def tw17556213921466474849:=0
def tw3672514990394499569:=0
def tw15817708759634400771:=0
def tw15201747390626995289:=0
def tw3664101012303977092:=0
def tw6352007131935778118:=0
def tw5974039595855872247:=0
def tw4390350527449038617:=0
def tw6196034787736022254:=0
def tw17856851219778245771:=0
def tw5084366570806293190:=0
def tw8204003394411315424:=0
def tw17934427431881198288:=0
def tw5918095715533501291:=0
def tw12317545743723261450:=0
def tw37243359766499838:=0
def tw6103759253526157893:=0
def tw12529857766742767258:=0
def tw9588512964606594527:=0
def tw7206894418583857841:=0
def tw13960235325506798413:=0
def tw4312350986850820992:=0
def tw5190640324435125245:=0
def tw13490702663518301332:=0
def tw694446756594040056:=0
def tw8949440325854519690:=0
def tw7923872838746741855:=0
def tw7302187064058169993:=0
def tw12260100210961710892:=0
def tw11087392031975253044:=0
def tw10413794854240909591:=0
def tw16420934836367430809:=0
def tw8423642799199008109:=0
def tw9709877976269202471:=0
def tw8158059546989699372:=0
def tw16313682039560239065:=0
def tw6756248262831033259:=0
def tw5713469573135014136:=0
def tw16181017124670561631:=0
def tw7605655481793251587:=0
def tw14232955986121142041:=0
def tw13919402473684806050:=0
def tw8018176223756349908:=0
def tw11202305722307017660:=0
def tw4917935423622888869:=0
def tw640954783431999:=0
def tw18255877965376840954:=0
def tw2807921062496217086:=0
def tw16488395374552027674:=0
def tw5600678928224670388:=0
def tw17280030790636568297:=0
def tw287965291555762354:=0
def tw3720648832634005650:=0
def tw10060182792178971398:=0
def tw6021938957489642984:=0
def tw18030733327747714550:=0
def tw9559405011665192268:=0
def tw5265160072726205757:=0
def tw2224622360399971192:=0
def tw11867066974739319495:=0
def tw17153468945156142691:=0
def tw13790774585601430569:=0
def tw17799780729456093313:=0
def tw8941224400323902379:=0
def tw10689152965099417609:=0
def tw7749242307114056925:=0
def tw14688589967609125481:=0
def tw498083550545291845:=0
def tw572676294692661111:=0
def tw8097145597505442509:=0
def tw2960431116801572020:=0
def tw13502197132255229015:=0
def tw11368850344014030633:=0
def tw6874753719016054248:=0
def tw15864141089311972558:=0
def tw13687552032290683181:=0
def tw11427136120044973741:=0
def tw1677225402303151667:=0
def tw15288667099098073992:=0
def tw1994361888392062708:=0
def tw5660253887935373588:=0
def tw1737622733709511158:=0
def tw9835620237587289106:=0
def tw15034506923772999134:=0
def tw4715226007947098149:=0
def tw3948360110726677011:=0
def tw9483872197968704238:=0
def tw8909916302199391577:=0
def tw12751596258318709002:=0
def tw6393040726238247678:=0
def tw2528244245478979190:=0
def tw7229764852755863257:=0
def tw2765553944021737110:=0
def tw15221667873656573308:=0
def tw15634211377385923512:=0
def tw1419507461019741953:=0
def tw7086834612716534120:=0
def tw14668437709360898577:=0
def tw5525826072493665689:=0
def tw2205344594246453373:=0
def tw2540553732986407158:=0
def tw776536371380499673:=0
def tw13741051697448925707:=0
def tw3188373025912738572:=0
def tw8143785265096164877:=0
def tw15159121420598532430:=0
def tw9509373886541992255:=0
def tw1506146976848930138:=0
def tw2952686621003343569:=0
def tw14698228098301259184:=0
def tw10917668017265556886:=0
def tw1964813769734905442:=0
def tw8858172744600586356:=0
def tw9905782760338723632:=0
def tw16304346189326909866:=0
def tw1438852441164210922:=0
def tw15752637365771394585:=0
def tw13145631685897752461:=0
def tw2635992531656984159:=0
def tw2483161710755004071:=0
def tw2532547875066520297:=0
def tw8044853429480360461:=0
def tw1318544426118242232:=0
def tw991117045935291770:=0
def tw1894830519564165968:=0
def tw7267659995143961216:=0
def tw4805915156032151686:=0
def tw4733479210020096440:=0
def tw4382361283426510270:=0
def tw12176967839397985552:=0
def tw14662153715883699813:=0
def tw14191463022471459839:=0
def tw8207097130204092998:=0
def tw18367344440030236239:=0
def tw13090496435755739906:=0
def tw5550125166862099229:=0
def tw10056136754336712613:=0
def tw13714933962661710565:=0
def tw3932397212786184074:=0
def tw12749923494367931621:=0
def tw10734070907227237374:=0
def tw5787947689893884148:=0
def tw6752014866243583142:=0
def tw8754437672124771440:=0
def tw16637382724988620855:=0
def tw11115567828294253033:=0
def tw13353441531640172815:=0
def tw5353554433048548607:=0
def tw7781378386280553258:=0
def tw12195133948365132764:=0
def tw11668280042717893311:=0
def tw4694117762756657409:=0
def tw18282599427091022943:=0
def tw10307687986681547450:=0
def tw16172895693363005939:=0
def tw8444656198260673124:=0
def tw7871346091901597086:=0
def tw12904071653565906633:=0
def tw8608420505726612743:=0
def tw10610936026978752975:=0
def tw2362794851121947073:=0
def tw14013727206542966362:=0
def tw7409412813236653307:=0
def tw9869453234524831690:=0
def tw8232771182111053760:=0
def tw16150871879855960054:=0
def tw243654997968237305:=0
def tw6006771235292494398:=0
def tw12564499869957202330:=0
def tw3869340338818699068:=0
def tw1892200081649008124:=0
def tw9898346378154503805:=0
def tw17309927962952158087:=0
def tw7915986035830689158:=0
def tw12635267347443143773:=0
def tw12900833520509876944:=0
def tw15569425446303943772:=0
def tw6330078869405783626:=0
def tw4302352424756792909:=0
def tw3907268038040301522:=0
def tw15764166080706836291:=0
def tw17021641906100163380:=0
def tw8244977371790638345:=0
def tw9593812130483056340:=0
def tw3005780972397093145:=0
def tw5601984699922820697:=0
def tw12694233637635292256:=0
def tw10154242810784234629:=0
def tw2865915503231959904:=0
def tw5430334840575253172:=0
def tw6666168066525133279:=0
def tw16697240774510884183:=0
def tw430005468307769015:=0
def tw9138741033463051620:=0
def tw10710643864918079981:=0
def tw2042843811381071038:=0
def tw10953356154521957012:=0
def tw6769751614977725549:=0
def tw15251108914388819026:=0
def tw13872786247921229562:=0
def tw12048262165549985845:=0
def tw11245643788619689722:=0
def tw15655818127330327545:=0
def tw17074534864867966079:=0
def tw11690250163038232568:=0
def tw18040053360079890215:=0
def tw11163776315879343266:=0
def tw18373857148552668696:=0
def tw5206025973677970156:=0
def tw1119857226315193942:=0
def tw14824624332350897107:=0
def tw3467272667430858102:=0
def tw16835063238964625667:=0
def tw13905001171657903220:=0
def tw16913125113939373983:=0
def tw11386144779457155100:=0
def tw10688961017143722710:=0
def tw14483042193474259727:=0
def tw8338465240423997297:=0
def tw13737160129232761189:=0
def tw16526179203319892270:=0
def tw8667195223610438322:=0
def tw7997173611438408860:=0
def tw7544643352949197811:=0
def tw4027907460558361226:=0
def tw8885426009724984816:=0
def tw4228133661146753368:=0
def tw18260488114493388869:=0
def tw9882859496622449936:=0
def tw145807951706002615:=0
def tw4981553287937184646:=0
def tw16206271657081011419:=0
def tw4806250186225597439:=0
def tw18212353647242982747:=0
def tw5561883570110248673:=0
def tw15559623362290568302:=0
def tw6480040485682154826:=0
def tw17875096747380945474:=0
def tw8329501035432988671:=0
def tw4690239402853382962:=0
def tw6342504943205743778:=0
def tw4375721339538663498:=0
def tw9258671578438562167:=0
def tw14912090392743302769:=0
def tw12257714511964186066:=0
def tw14756486181580638018:=0
def tw6890212937044883453:=0
def tw10578752641665704924:=0
def tw12888226644043492993:=0
def tw4711598300230525593:=0
def tw14816854170906313190:=0
def tw13236687641810090593:=0
def tw3398220122156232661:=0
def tw7081068852688582970:=0
def tw11000873156420516293:=0
def tw10717585917169437434:=0
def tw15930713994437919509:=0
def tw10166707110243022673:=0
def tw17027754805749290302:=0
def tw4235257609521897812:=0
def tw4923412923112388139:=0
def tw55389992088595102:=0
def tw17613192183435937869:=0
def tw5915482398404979286:=0
def tw3326907582505566685:=0
def tw16209405859195076148:=0
def tw15803466358326486276:=0
def tw11428404360016974670:=0
def tw13304645645992597971:=0
def tw5753946818828532398:=0
def tw6568628853147036222:=0
def tw5852697088755444813:=0
def tw1713934940775969410:=0
def tw9909673614671031103:=0
def tw14405829271977959070:=0
def tw3699595621296802667:=0
def tw15784307452092785331:=0
def tw14496013949467535223:=0
def tw8887283046011002387:=0
def tw14838459749610658084:=0
def tw2378744326139332050:=0
def tw7767787002523907107:=0
def tw1140429676706611160:=0
def tw5608481864578822517:=0
def tw14793757180540618774:=0
end PySem.W.Fast
theorem PySem.Challenge.cw_edgemoss_k25_greatest_marks_holds : PySem.Challenge.rw_edgemoss_k25_greatest_marks.Holds := by
 w_on;o_law;k_head;(case hw=>w_witness2)
 k_fill
 refine Vl.aaf (l:=PySem.Challenge.rw_edgemoss_k25_greatest_marks) (k:=9) (v:=Ih.Ov) (ts:=[(213,"common_stride.<locals>.<lambda>")]) rfl rfl ⟨rfl,by decide,by decide⟩ (fun w h Y=>PySem.W.km_in_of Y) ?aT (by decide) ?aL ?aN ?aC ?aV ?aF
 case aT=>exact fun w h Y y hy=>by rw[d_.mp hy];exact PySem.W.km_tabs_of Y _ (d_.mpr rfl)
 case aL=>exact fun w=>by kernel_rfl
 case aN=>exact fun w y hy=>by rw[d_.mp hy];kernel_rfl
 case aV=>exact Ih.XQ
 case aF =>
  intro w mg fa h KX G hmg;refine' Ih.all_mk (oY:=213) KX G hmg ?_ ?_ ?_ ?_ ?_ ?_ ?_ ?_ ?_ ?_ ?_ ?_ ?_ ?_ ?_ ?_ ?_ ?_ ?_ ?_ ?_ ?_ ?_ ?_ ?_ ?_ ?_ ?_ ?_ ?_ ?_ ?_ ?_ ?_ ?_ ?_ ?_ ?_ ?_ ?_ ?_ ?_ ?_ ?_ ?_ ?_ ?_ ?_ ?_ ?_ ?_ ?_ ?_ ?_ ?_ ?_ ?_ ?_ ?_ ?_ ?_ ?_ ?_ ?_ ?_ ?_
  all_goals try refine' Vl.Dn.mk ?_ ?_ ?_ ?_
  all_goals try first|k_is|kernel_rfl|k_exc
 case aC =>
  intro w y hy;rw[d_.mp hy];refine' Vl.afV (x:="common_stride") (st:=Ih.cF) ?a ?b ?e
  (case a=>k_is)
  (case b=>k_is)
  (case e=>kernel_rfl)
