import PyProof.Rows.All
import Wide.All
import OpenK.AllK
import Wide.FinOn
import KE.OsRunLaw
import PySem.Challenge.RW_unwound_k37_whole_combed_beside_single_m
import KE.KNestM
import KE.KDictKeyed
import HandS.Dict
import HandS.DictTup
import HandS.TupSets
import HandS.Strs
import KE.SortData
import PyProof.Transfer
import HandS.Deep
import HandS.SortInts
import HandS.ForMost
import HandS.ForExc
import HandS.TryMany
import HandS.CallSlots
import HandS.TupAny
import HandS.TupMul
import HandS.Nested
import HandS.ExcInit
import HandS.Flow
import HandS.Walk
import HandS.Zip
import HandS.RevRange
import HandS.IsInst
import HandS.Small
import KE.GoesEnum
import HandS.Rev
import HandS.ExcField
import HandS.ExcIs
import HandS.AnyAll
import HandS.GenOver
import HandS.FStr
import KE.KExcInit
import KE.KExcIs
import HandS.Style
import HandS.Defaults
import KE.DataMinMax
import HandS.SortKw
import PyProof.Rows.TupReads
import HandS.DictComp
import HandS.WordsDict
import HandS.TupLen
import HandS.NoneIn
import PyProof.EqKinds
import PyProof.Rows.TupDisplay
import PyProof.P3Eq
import KE.GoesRaise
import KE.GoesComp
import HandS.Comp
import KE.GoesSet
import HandS.EndTab
import KE.KExcTry
import KE.KExcStr
import HandS.NestedK
import HandS.Gcd
import HandS.WideBits
import HandS.Iter
import KE.KSortKeySt
import HandS.Star
import HandS.SetKeys
import KE.KMinKey
import KE.KDictSum
import PyProof.Rows.SumGenD
import HandS.ClsMeth
import KE.KDictCopyH
import KE.KDictZip
import KE.KDictPairs
import KE.DataAny
import HandS.Conv
import PyProof.Rows.SortShellAny
import HandS.FStrTup
import KE.LtData
import KE.KIndexOf
import HandS.Text
import HandS.Replace
import PyProof.StrLawsChain
import HandS.StrMore
import HandS.ReplaceLit
import HandS.More
noncomputable section
set_option Elab.async false
namespace HeadCut
theorem cut3 {α β γ δ : Type _} {x : Option α} {fa : α → β} {fb : α → γ} {fc : α → δ} {a : β} {b : γ} {c : δ} (h1 : x.map fa = some a) (h2 : x.map fb = some b) (h3 : x.map fc = some c) : x.map (fun s => (fa s, fb s, fc s)) = some (a, b, c) := by
  cases x with
  | none => cases h1
  | some y =>
    cases h1
    cases h2
    cases h3
    rfl
end HeadCut
namespace HeadCut
end HeadCut
namespace HeadCut
open PyProof.Rows
end HeadCut
set_option linter.all false
namespace HeadCut
open PySem PySem.W PyProof.Rows
noncomputable abbrev twR := PySem.W.Fast.tw3399658132070893891
noncomputable abbrev twT := PySem.W.Fast.tw5930804224584009831
noncomputable abbrev twV := PySem.W.Fast.tw2578726214315757710
noncomputable abbrev twP := PySem.W.Fast.tw210736558901404530
theorem twR_eq : recsOf = twR := PySem.W.Fast.te3399658132070893891
theorem twT_eq : PySem.Heap.tab0Ok = twT := PySem.W.Fast.te5930804224584009831
theorem twV_eq : valsOk = twV := PySem.W.Fast.te2578726214315757710
theorem twP_eq : plainsOf = twP := PySem.W.Fast.te210736558901404530
abbrev shp (d : DefRec) : Option FnShape := some d.shape
end HeadCut
set_option maxRecDepth 100000
namespace HeadCut
open PySem PySem.W PyProof.Rows HeadRun
def fRec : Stmt → Option DefRec
  | .FunctionDef n a b _ _ _ sc _ _ pos => some ⟨n, a, b, sc, pos⟩
  | _ => none
def fMeth : Stmt → Option MethRec
  | .FunctionDef n a b _ _ _ sc _ _ _ => some ⟨n, a, b, sc⟩
  | _ => none
def fCls : Stmt → Option ClsRec
  | .ClassDef n [] _ body _ _ _ _ _ st pos => some ⟨n, none, body, st, pos.line, body.filterMap fMeth⟩
  | _ => none
noncomputable abbrev twSh := PySem.W.Fast.tw2020367076256383516
noncomputable abbrev twO := PySem.W.Fast.tw5991557255702980513
noncomputable abbrev twOwn := PySem.W.Fast.tw2817317335113233408
noncomputable abbrev twQu := PySem.W.Fast.tw16017708745293785899
noncomputable abbrev twNl := PySem.W.Fast.tw15623941606353435126
noncomputable abbrev twNd := PySem.W.Fast.tw912232860611745870
noncomputable abbrev twK := PySem.W.Fast.tw10880121769531294198
noncomputable abbrev twAc := PySem.W.Fast.tw14722251495701143533
noncomputable abbrev twTb := PySem.W.Fast.tw10994771534591457954
noncomputable abbrev twBm := PySem.W.Fast.tw5244371056499926238
noncomputable abbrev twNs := PySem.W.Fast.tw9649274521512697073
noncomputable abbrev twIn := PySem.W.Fast.tw2458874890965802552
noncomputable abbrev twPS := PySem.W.Fast.tw15717526521509864196
noncomputable abbrev twCn := PySem.W.Fast.tw1696807537771891022
theorem twCn_eq : constAt = twCn := PySem.W.Fast.te1696807537771891022
theorem twSh_eq : PySem.Heap.shapeAt = twSh := PySem.W.Fast.te2020367076256383516
theorem twO_eq : ownsOf = twO := PySem.W.Fast.te5991557255702980513
theorem twOwn_eq : PySem.Heap.ownExcOk = twOwn := PySem.W.Fast.te2817317335113233408
theorem twQu_eq : PySem.Heap.quietOk = twQu := PySem.W.Fast.te16017708745293785899
theorem twNl_eq : PySem.Heap.noLimitOk = twNl := PySem.W.Fast.te15623941606353435126
theorem twNd_eq : PySem.Heap.noDigitsOk = twNd := PySem.W.Fast.te912232860611745870
theorem twK_eq : PySem.Heap.keysOk = twK := PySem.W.Fast.te10880121769531294198
theorem twAc_eq : PySem.Heap.accountedOkI = twAc := PySem.W.Fast.te14722251495701143533
theorem twTb_eq : tablesOk = twTb := PySem.W.Fast.te10994771534591457954
theorem twBm_eq : PySem.Heap.bmainOk = twBm := PySem.W.Fast.te5244371056499926238
theorem twNs_eq : PySem.Heap.noSeerOk = twNs := PySem.W.Fast.te9649274521512697073
theorem twIn_eq : importsNone = twIn := PySem.W.Fast.te2458874890965802552
theorem twPS_eq : PySem.Heap.plainShapeAt = twPS := PySem.W.Fast.te15717526521509864196
noncomputable def fSeen (q : Program) (R : List DefRec) (PL : List ClsRec) (LW LN CN mods : List PySem.Str) (WL : List (PySem.Str × WData)) (Xt : Shared → Bool) (s : Shared) :=
  (R.map (fun d => twSh s.heap mainGlobals d.name), PL.map (fun c => twPS s.heap c.withCmp), s.heap.bltView,
   ((twO q).all fun o => twOwn s.heap o.name o.chain o.bm o.newId && twQu s.heap o.name) && (s.heap.isNs mainGlobals && s.heap.isNs builtinsNs && (twNl s.heap && twNd s.heap)),
   (twK s.heap LW (R.map (·.name)) LN CN && twAc s.heap mods && twTb q s.heap && Xt s && (s.gens.size == 0) && WL.all (twCn s.heap)),
   ((R.all fun d => twT s.heap d.name) && twBm s.heap && twV q s.heap) && (!twIn q || twNs s.heap))
noncomputable def fGood (R : List DefRec) (PL : List ClsRec) := (R.map shp, PL.map (fun c => (some c.withCmp.plainShape : Option PlainShape)), bltViewBooted, true, true, true)
theorem open_of {q : Program} {lo mods : List PySem.Str} {Xt : Shared → Bool} {s : Shared} {R : List DefRec} {PL : List ClsRec} {LW LN CN : List PySem.Str} {WL : List (PySem.Str × WData)}
    (eR : recsOf q = R) (eP : plainsOf q (looseW q lo) = PL) (eC : (clssOf q (looseW q lo)).map (·.name) = CN) (eL : looseW q lo = LW) (eN : (litsOf q).map (·.1) = LN) (eD : drecsOf q = []) (eDC : dclssOf q lo = []) (eWD : wdefsOf q = []) (eWL : wlitsOf q = WL) (eWC : wclssOf q lo = [])
    (e : fSeen q R PL LW LN CN mods WL Xt s = fGood R PL) : openSeen q lo mods Xt true s = openGood q lo := by
  unfold fSeen fGood at e
  simp only [Prod.mk.injEq] at e
  obtain ⟨a1, a7, a4, a23, a5, a6⟩ := e
  rw [← twSh_eq] at a1
  rw [← twPS_eq] at a7
  rw [← twO_eq, ← twOwn_eq, ← twQu_eq, ← twNl_eq, ← twNd_eq] at a23
  rw [← twK_eq, ← twAc_eq, ← twTb_eq, ← twCn_eq] at a5
  rw [← twT_eq, ← twBm_eq, ← twV_eq, ← twIn_eq, ← twNs_eq] at a6
  simp only [Bool.and_eq_true] at a23 a5
  obtain ⟨a2, ⟨n1, n2⟩, n3⟩ := a23
  obtain ⟨⟨⟨⟨⟨k1, k2⟩, k3⟩, k4⟩, k5⟩, k6⟩ := a5
  have s1 : seen ((recsOf q).map (·.name)) (ownsOf q) [] { s with gens := #[] } = expectedOf q := by
    unfold seen expectedOf
    have z1 : ((recsOf q).map (·.name)).map (s.heap.shapeAt mainGlobals) = (recsOf q).map fun d => some d.shape := by
      rw [eR, List.map_map]
      exact a1
    have z3 : (s.heap.noLimitOk && s.heap.noDigitsOk) = true := by rw [n3.1, n3.2]; rfl
    show Seen.mk (((recsOf q).map (·.name)).map (s.heap.shapeAt mainGlobals)) _ _ (s.heap.isNs mainGlobals) (s.heap.isNs builtinsNs) (s.heap.noLimitOk && s.heap.noDigitsOk) _ = _
    rw [z1, n1, n2, z3]
    show Seen.mk _ ((ownsOf q).all fun o => s.heap.ownExcOk o.name o.chain o.bm o.newId && s.heap.quietOk o.name) _ _ _ _ _ = _
    rw [a2]
    rfl
  have s3 : (s.heap.keysOk (looseW q lo) ((recsOf q).map (·.name)) ((litsOf q).map (·.1)) ((clssOf q (looseW q lo)).map (·.name)) && s.heap.accountedOkI mods && s.heap.isNs mainGlobals && s.heap.isNs builtinsNs && tablesOk q s.heap && Xt s && (if true then s.gens.size == 0 else !leftWithCleanup s.gens)) = true := by
    rw [eC, eL, eN, eR, k1, k2, n1, n2, k3, k4]
    exact k5
  have s4 : tabsOk q s = true := by
    unfold tabsOk
    rw [eR]
    exact a6
  have s6 : plainSeenE q (looseW q lo) s = plainGoodE q (looseW q lo) := by
    unfold plainSeenE plainGoodE
    rw [eP]
    exact a7
  have s5 : pinSeenD q (drecsOf q) s = pinGoodD (drecsOf q) := by rw [eD]; rfl
  have s7 : plainSeenD q lo s = plainGoodD q lo := by unfold plainSeenD plainGoodD; rw [eDC]; rfl
  have s8 : wideSeen q s = wideGood q := by
    unfold wideSeen wideGood
    rw [eWD, eWL, k6]
    rfl
  have s9 : clsSeenW q lo s = clsGoodW q lo := by unfold clsSeenW clsGoodW; rw [eWC]; rfl
  unfold openSeen openGood
  rw [s1, a4, s3, s4, s5, s6, s7, s8, s9]
theorem seen_of {α : Type _} {x : Option α} {f : α → Shared} {q : Program} {lo mods : List PySem.Str} {Xt : Shared → Bool} {R : List DefRec} {PL : List ClsRec} {LW LN CN : List PySem.Str} {WL : List (PySem.Str × WData)}
    (eR : recsOf q = R) (eP : plainsOf q (looseW q lo) = PL) (eC : (clssOf q (looseW q lo)).map (·.name) = CN) (eL : looseW q lo = LW) (eN : (litsOf q).map (·.1) = LN) (eD : drecsOf q = []) (eDC : dclssOf q lo = []) (eWD : wdefsOf q = []) (eWL : wlitsOf q = WL) (eWC : wclssOf q lo = [])
    (e : x.map (fun s => fSeen q R PL LW LN CN mods WL Xt (f s)) = some (fGood R PL)) : x.map (fun s => seenQ q lo mods Xt (f s)) = some (openGood q lo) := by
  cases x with
  | none => cases e
  | some y =>
    have e1 : fSeen q R PL LW LN CN mods WL Xt (f y) = fGood R PL := Option.some.inj e
    show some (seenQ q lo mods Xt (f y)) = _
    rw [← seenQ_eq, open_of eR eP eC eL eN eD eDC eWD eWL eWC e1]
end HeadCut
namespace HeadCut
open PySem PySem.W PyProof.Rows HeadRun
theorem fcut {α : Type _} {x : Option α} {f : α → Shared} {q : Program} {R : List DefRec} {PL : List ClsRec} {LW LN CN mods : List PySem.Str} {WL : List (PySem.Str × WData)} {Xt : Shared → Bool} (n : Nat)
    (r1 : x.map (fun s => (R.take n).map fun d => twSh (f s).heap mainGlobals d.name) = some ((R.take n).map shp)) (r2 : x.map (fun s => (R.drop n).map fun d => twSh (f s).heap mainGlobals d.name) = some ((R.drop n).map shp))
    (r3 : x.map (fun s => (PL.map (fun c => twPS (f s).heap c.withCmp), (f s).heap.bltView,
      ((twO q).all fun o => twOwn (f s).heap o.name o.chain o.bm o.newId && twQu (f s).heap o.name) && ((f s).heap.isNs mainGlobals && (f s).heap.isNs builtinsNs && (twNl (f s).heap && twNd (f s).heap)),
      (twK (f s).heap LW (R.map (·.name)) LN CN && twAc (f s).heap mods && twTb q (f s).heap && Xt (f s) && ((f s).gens.size == 0) && WL.all (twCn (f s).heap)))) = some (PL.map (fun c => (some c.withCmp.plainShape : Option PlainShape)), bltViewBooted, true, true))
    (r4 : x.map (fun s => (R.take n).all fun d => twT (f s).heap d.name) = some true) (r5 : x.map (fun s => ((R.drop n).all fun d => twT (f s).heap d.name) && (twBm (f s).heap && twV q (f s).heap && (!twIn q || twNs (f s).heap))) = some true) :
    x.map (fun s => fSeen q R PL LW LN CN mods WL Xt (f s)) = some (fGood R PL) := by
  cases x with
  | none => cases r1
  | some y =>
    have g1 : (R.take n).map (fun d => twSh (f y).heap mainGlobals d.name) = (R.take n).map shp := Option.some.inj r1
    have g2 : (R.drop n).map (fun d => twSh (f y).heap mainGlobals d.name) = (R.drop n).map shp := Option.some.inj r2
    have g3 := Option.some.inj r3
    have g4 : ((R.take n).all fun d => twT (f y).heap d.name) = true := Option.some.inj r4
    have g5 := Option.some.inj r5
    show some (fSeen q R PL LW LN CN mods WL Xt (f y)) = some (fGood R PL)
    simp only [Prod.mk.injEq] at g3
    obtain ⟨p1, p2, p3, p4⟩ := g3
    simp only [Bool.and_eq_true] at g5
    obtain ⟨t1, ⟨t2, t3⟩, t4⟩ := g5
    have m1 : R.map (fun d => twSh (f y).heap mainGlobals d.name) = R.map shp := by
      rw [← List.take_append_drop n R, List.map_append, List.map_append, g1, g2]
    have m2 : (R.all fun d => twT (f y).heap d.name) = true := by
      rw [← List.take_append_drop n R, List.all_append, g4, t1]
      rfl
    unfold fSeen fGood
    rw [m1, p1, p2, p3, p4, m2, t2, t3, t4]
    rfl
end HeadCut
set_option maxHeartbeats 0
namespace L37
open PySem PySem.W PySem.Calls PyProof.Rows HeadRun
noncomputable section
def qv : Program := { PySem.Challenge.pw_unwound_k37_whole_combed_beside_single_m with main := { (PySem.Challenge.pw_unwound_k37_whole_combed_beside_single_m).main with body := [1, 2, 4, 5, 6, 8, 9, 10, 12, 13, 14, 15, 16, 17, 18, 19, 20, 21, 22, 23, 24, 25, 26, 27].filterMap fun i : Nat => (PySem.Challenge.pw_unwound_k37_whole_combed_beside_single_m).main.body[i]? } }
def lo : List PySem.Str := []
def LW : List PySem.Str := []
def CN : List PySem.Str := []
def LN : List PySem.Str := []
def WL : List (PySem.Str × WData) := []
def recs : List DefRec := qv.main.body.filterMap HeadCut.fRec
def plains : List ClsRec := qv.main.body.filterMap HeadCut.fCls
abbrev rP : Program := (PySem.Challenge.rw_unwound_k37_whole_combed_beside_single_m).row.prog
abbrev theRun (w : World) (os : OsState) := endF (stepQ (denQ tabQ) rP w) 1658 rP w os
abbrev SS := SharedT
abbrev sT (x : SS) : Shared := x.abs
abbrev looks0 (w : World) (x : SS) : Bool := looksF rP (boot_heap w.params) x.abs
abbrev Xt (s : Shared) : Bool := xlAt qv [] s && recOk (RowW.records (OpenRow.toRowW (PySem.Challenge.rw_unwound_k37_whole_combed_beside_single_m).row)) s
end
end L37
namespace HeadCut
open PySem PySem.W PySem.Calls PyProof.Rows HeadRun
theorem left_m0 {p q : Program} {lo : List PySem.Str} {Xt : Shared → Bool} {K : Params → Frag} {as ts : List Addr} {ek : ∀ P, as = (K P).map (·.1)} {N M : Nat}
    (e : opening p = plainProg p.main.scope.names) (hN : Nat.ble 600 N = true) (f : ∀ s, fenceModules? p s = some s) (le : Nat.ble M N = true)
    (run : ∀ (w : World) (os : OsState), (endF (stepQ (denQ tabQ) p w) M p w os).map (fun x => (looksF p (boot_heap w.params) x.abs, seenQ q lo (importedModules p.main.body) Xt x.abs, (as.map (getT x), ts.map (getT x)))) = some (true, openGood q lo, ((K w.params).map (fun x => some x.2), ts.map fun _ => some (tabObj #[])))) :
    LeftO p q lo Xt (Hook.obs (kmHook K as ek ts)) (Hook.val (kmHook K as ek ts)) N true :=
  left_one (M := M) e hN f le fun w os => by
    have z := run w os
    have g : getT = fun (s : SharedT) a => s.abs.heap.get? a := funext fun s => funext fun a => getT_eq s a
    rw [g] at z
    simp only [endQ_eq, seenQ_eq]
    exact z
theorem hold_m0 (H : Hook) (N : Nat) {r : OpenRow} {q : Program} {lo : List PySem.Str} {K : Params → Frag} {as ts : List Addr} {ek : ∀ P, as = (K P).map (·.1)} {d : DefRec} {M : Nat} (eH : H = kmHook K as ek ts)
    (run : ∀ (w : World) (os : OsState), (endF (stepQ (denQ tabQ) r.prog w) M r.prog w os).map (fun x => (looksF r.prog (boot_heap w.params) x.abs, seenQ q lo (importedModules r.prog.main.body) (fun s => xlAt q [] s && recOk (RowW.records (OpenRow.toRowW r)) s) x.abs, (as.map (getT x), ts.map (getT x)))) = some (true, openGood q lo, ((K w.params).map (fun x => some x.2), ts.map fun _ => some (tabObj #[]))))
    (p1 : opening r.prog = plainProg r.prog.main.scope.names) (p2 : Nat.ble 600 N = true) (p3 : ∀ s, fenceModules? r.prog s = some s) (p4 : Nat.ble M N = true)
    (e1 : defOf q r.name = some (d, [])) (e2 : r.prog.theDef r.name = some (d.params, d.body, d.scope)) (e3 : kwWritten? d.params.kwonlyargs d.params.kw_defaults = some []) (e4 : (!r.writes || r.records.isEmpty) = true) (e5 : r.wellSaid = true) (e6 : (chainsOk q && opensWell r.prog && (frees r.toRowW && r.within.isEmpty)) = true) (e7 : r.prog.bare) (hw : r.toRowW.promised)
    (hc : WalkO q lo (XL q []) H.says r.toRowW d [] fun f vs => PySem.call f vs) : r.Holds := by
  subst eH
  exact holds_open (N := N) (Xt := fun s => xlAt q [] s && recOk (RowW.records (OpenRow.toRowW r)) s) (left_m0 p1 p2 p3 p4 run) (kmHook K as ek ts).of (kmHook K as ek ts).keeps (fun s z => xl_of s (Bool.and_eq_true_iff.mp z).1) XL.keeps e1 e2 e3 (fun s z => recFacts_of (Bool.and_eq_true_iff.mp z).2) e4 e5 e6 e7 hw hc
end HeadCut
namespace HeadCut
open PySem
end HeadCut
namespace HeadCut
open PySem PySem.W PySem.Calls PyProof.Rows HeadRun
theorem hold_m0S (H : Hook) (N : Nat) {r : OpenRow} (q : Program) (lo : List PySem.Str) {K : Params → Frag} {as ts : List Addr} {ek : ∀ P, as = (K P).map (·.1)} {d : DefRec} {M : Nat} (eH : H = kmHook K as ek ts)
    (run : ∀ (w : World) (os : OsState), (endF (stepQ (denQ tabQ) r.prog w) M r.prog w os).map (fun x => (as.map (getT x), ts.map (getT x))) = some ((K w.params).map (fun x => some x.2), ts.map fun _ => some (tabObj #[])))
    (p1 : opening r.prog = plainProg r.prog.main.scope.names) (p2 : Nat.ble 600 N = true) (p3 : ∀ s, fenceModules? r.prog s = some s) (p4 : Nat.ble M N = true)
    (e1 : defOf q r.name = some (d, [])) (e2 : r.prog.theDef r.name = some (d.params, d.body, d.scope)) (e3 : kwWritten? d.params.kwonlyargs d.params.kw_defaults = some []) (e4 : (!r.writes || r.records.isEmpty) = true) (e5 : r.wellSaid = true) (e6 : (chainsOk q && opensWell r.prog && (frees r.toRowW && r.within.isEmpty)) = true) (e7 : r.prog.bare) (hw : r.toRowW.promised)
    (hc : (∀ (w : World) (os : OsState), (endF (stepQ (denQ tabQ) r.prog w) M r.prog w os).map (fun x => looksF r.prog (boot_heap w.params) x.abs) = some true) ∧
      (∀ (w : World) (os : OsState), (endF (stepQ (denQ tabQ) r.prog w) M r.prog w os).map (fun x => seenQ q lo (importedModules r.prog.main.body) (fun s => xlAt q [] s && recOk (RowW.records (OpenRow.toRowW r)) s) x.abs) = some (openGood q lo)) ∧
      WalkO q lo (XL q []) H.says r.toRowW d [] fun f vs => PySem.call f vs) : r.Holds :=
  hold_m0 H N eH (fun w os => cut3 (hc.1 w os) (hc.2.1 w os) (run w os)) p1 p2 p3 p4 e1 e2 e3 e4 e5 e6 e7 hw hc.2.2
end HeadCut
namespace HeadCut
open PySem PySem.TablesWhole
theorem app_h (top : Scope) (cx : TablesWhole.Ctx) (sc : Scope) : ∀ l1 l2 : List Stmt, wSs holds top cx sc (l1 ++ l2) = (wSs holds top cx sc l1 && wSs holds top cx sc l2)
  | [], l2 => by rw [List.nil_append, wSs]; rfl
  | s :: l1, l2 => by
    rw [List.cons_append, wSs, wSs, app_h top cx sc l1 l2]
    show (wS holds top cx sc s && (wSs holds top cx sc l1 && wSs holds top cx sc l2)) = ((wS holds top cx sc s && wSs holds top cx sc l1) && wSs holds top cx sc l2)
    rw [Bool.and_assoc]
theorem app_g (top : Scope) (cx : TablesWhole.Ctx) (sc : Scope) : ∀ l1 l2 : List Stmt, wSs gather top cx sc (l1 ++ l2) = wSs gather top cx sc l1 ++ wSs gather top cx sc l2
  | [], l2 => by rw [List.nil_append, wSs]; rfl
  | s :: l1, l2 => by
    rw [List.cons_append, wSs, wSs, app_g top cx sc l1 l2]
    show wS gather top cx sc s ++ (wSs gather top cx sc l1 ++ wSs gather top cx sc l2) = (wS gather top cx sc s ++ wSs gather top cx sc l1) ++ wSs gather top cx sc l2
    rw [List.append_assoc]
def qPart (n : Nat) (l : List Stmt) : Nat → List Stmt
  | 0 => l.take n
  | 1 => (l.drop n).take n
  | 2 => ((l.drop n).drop n).take n
  | _ => ((l.drop n).drop n).drop n
theorem q_app (n : Nat) (l : List Stmt) : qPart n l 0 ++ (qPart n l 1 ++ (qPart n l 2 ++ qPart n l 3)) = l := by
  show l.take n ++ ((l.drop n).take n ++ (((l.drop n).drop n).take n ++ ((l.drop n).drop n).drop n)) = l
  rw [List.take_append_drop, List.take_append_drop, List.take_append_drop]
abbrev wG (p : Program) (n k : Nat) : List Str := wSs gather p.main.scope ⟨p.main.scope, [], [], [], none⟩ p.main.scope (qPart n p.main.body k)
abbrev wH (p : Program) (n k : Nat) : Bool := wSs holds p.main.scope ⟨p.main.scope, [], [], [], none⟩ p.main.scope (qPart n p.main.body k)
theorem whole_of {p : Program} (n : Nat) (m : p.modules = []) (a : p.parses = []) (v : p.harvested = []) (t : noTwice p.main.scope = true)
    (g0 : wG p n 0 = []) (g1 : wG p n 1 = []) (g2 : wG p n 2 = []) (g3 : wG p n 3 = [])
    (h0 : wH p n 0 = true) (h1 : wH p n 1 = true) (h2 : wH p n 2 = true) (h3 : wH p n 3 = true) : p.tablesWhole = true := by
  dsimp only [wG] at g0 g1 g2 g3
  dsimp only [wH] at h0 h1 h2 h3
  have g : wSs gather p.main.scope ⟨p.main.scope, [], [], [], none⟩ p.main.scope p.main.body = [] := by
    rw [← q_app n p.main.body, app_g, app_g, app_g, g0, g1, g2, g3]
    rfl
  have h : wSs holds p.main.scope ⟨p.main.scope, [], [], [], none⟩ p.main.scope p.main.body = true := by
    rw [← q_app n p.main.body, app_h, app_h, app_h, h0, h1, h2, h3]
    rfl
  unfold Program.tablesWhole wProgram wModule
  rw [m, a, v]
  dsimp only
  rw [g, h, t]
  rfl
end HeadCut
namespace L37
open PySem PySem.W PySem.Calls PyProof.Rows HeadRun
def dl : DefRec := topDef rP 27
abbrev bigN : Nat := 2358
theorem p1 : opening rP = plainProg rP.main.scope.names := by kernel_rfl
theorem p2 : Nat.ble 600 bigN = true := by rfl
theorem p3 : ∀ s, fenceModules? rP s = some s := fun s => by kernel_rfl
theorem p4 : Nat.ble 1658 bigN = true := by rfl
theorem e_def : defOf qv (PySem.Challenge.rw_unwound_k37_whole_combed_beside_single_m).row.name = some (dl, []) := by kernel_rfl
theorem e_the : rP.theDef (PySem.Challenge.rw_unwound_k37_whole_combed_beside_single_m).row.name = some (dl.params, dl.body, dl.scope) := by kernel_rfl
theorem e_kw : kwWritten? dl.params.kwonlyargs dl.params.kw_defaults = some [] := by kernel_rfl
theorem e_ok : (chainsOk qv && opensWell rP && (frees (OpenRow.toRowW (PySem.Challenge.rw_unwound_k37_whole_combed_beside_single_m).row) && (PySem.Challenge.rw_unwound_k37_whole_combed_beside_single_m).row.within.isEmpty)) = true := by decide +kernel
theorem b_g0 : HeadCut.wG rP 8 0 = [] := by kernel_rfl
theorem b_h0 : HeadCut.wH rP 8 0 = true := by kernel_rfl
theorem b_g1 : HeadCut.wG rP 8 1 = [] := by kernel_rfl
theorem b_h1 : HeadCut.wH rP 8 1 = true := by kernel_rfl
theorem b_g2 : HeadCut.wG rP 8 2 = [] := by kernel_rfl
theorem b_h2 : HeadCut.wH rP 8 2 = true := by kernel_rfl
theorem b_g3 : HeadCut.wG rP 8 3 = [] := by kernel_rfl
theorem b_h3 : HeadCut.wH rP 8 3 = true := by kernel_rfl
theorem b_t : PySem.TablesWhole.noTwice rP.main.scope = true := by kernel_rfl
theorem e_bare : rP.bare := ⟨rfl, rfl, rfl, rfl, rfl, HeadCut.whole_of 8 rfl rfl rfl b_t b_g0 b_g1 b_g2 b_g3 b_h0 b_h1 b_h2 b_h3⟩
end L37
section
open PySem PySem.W PyProof.Rows
local macro_rules | `(tactic| o_head $H:term) => do { let hw := Lean.mkIdent `hw; let hc := Lean.mkIdent `hc; `(tactic| refine HeadCut.hold_m0S $H L37.bigN L37.qv L37.lo rfl (fun w os => (by kernel_rfl)) L37.p1 L37.p2 L37.p3 L37.p4 L37.e_def L37.e_the L37.e_kw rfl (by assumption) L37.e_ok L37.e_bare ?$hw ?$hc) }
set_option maxRecDepth 100000 in
set_option maxHeartbeats 0 in
open_top L37.hd for PySem.Challenge.rw_unwound_k37_whole_combed_beside_single_m
end
namespace L37
open PySem PySem.W PySem.Calls PyProof.Rows HeadRun
theorem facts : (HeadCut.twR qv, HeadCut.twP qv (PySem.W.Fast.tw821141287760084731 qv lo), (PySem.W.Fast.tw13664370479719496447 qv (PySem.W.Fast.tw821141287760084731 qv lo)).map (·.name), PySem.W.Fast.tw821141287760084731 qv lo, (PySem.W.Fast.tw7409074990110511671 qv).map (·.1), PySem.W.Fast.tw3247288618530077131 qv, PySem.W.Fast.tw4354255287344443571 qv lo, PySem.W.Fast.tw694669760492028198 qv, PySem.W.Fast.tw11925523677476243305 qv, PySem.W.Fast.tw1571739515156823405 qv lo) = (recs, plains, CN, LW, LN, [], [], [], WL, []) := by kernel_rfl
theorem factsP : recsOf qv = recs ∧ plainsOf qv (looseW qv lo) = plains ∧ (clssOf qv (looseW qv lo)).map (·.name) = CN ∧ looseW qv lo = LW ∧ (litsOf qv).map (·.1) = LN ∧ drecsOf qv = [] ∧ dclssOf qv lo = [] ∧ wdefsOf qv = [] ∧ wlitsOf qv = WL ∧ wclssOf qv lo = [] := by
  have e := facts
  rw [← HeadCut.twR_eq, ← HeadCut.twP_eq, ← PySem.W.Fast.te821141287760084731, ← PySem.W.Fast.te13664370479719496447, ← PySem.W.Fast.te7409074990110511671, ← PySem.W.Fast.te3247288618530077131, ← PySem.W.Fast.te4354255287344443571, ← PySem.W.Fast.te694669760492028198, ← PySem.W.Fast.te11925523677476243305, ← PySem.W.Fast.te1571739515156823405] at e
  simp only [Prod.mk.injEq] at e
  exact e
end L37
namespace L37
open PySem PySem.W PySem.Calls PyProof.Rows HeadRun
theorem h0 (w : World) (os : OsState) : (theRun w os).map (looks0 w) = some true := by kernel_rfl
end L37
namespace L37
open PySem PySem.W PySem.Calls PyProof.Rows HeadRun
theorem hr1 (w : World) (os : OsState) : (theRun w os).map (fun x => (recs.take 13).map fun d => HeadCut.twSh (sT x).heap mainGlobals d.name) = some ((recs.take 13).map HeadCut.shp) := by kernel_rfl
end L37
namespace L37
open PySem PySem.W PySem.Calls PyProof.Rows HeadRun
theorem hr2 (w : World) (os : OsState) : (theRun w os).map (fun x => (recs.drop 13).map fun d => HeadCut.twSh (sT x).heap mainGlobals d.name) = some ((recs.drop 13).map HeadCut.shp) := by kernel_rfl
end L37
namespace L37
open PySem PySem.W PySem.Calls PyProof.Rows HeadRun
theorem hr3 (w : World) (os : OsState) : (theRun w os).map (fun x => (plains.map (fun c => HeadCut.twPS (sT x).heap c.withCmp), (sT x).heap.bltView, ((HeadCut.twO qv).all fun o => HeadCut.twOwn (sT x).heap o.name o.chain o.bm o.newId && HeadCut.twQu (sT x).heap o.name) && ((sT x).heap.isNs mainGlobals && (sT x).heap.isNs builtinsNs && (HeadCut.twNl (sT x).heap && HeadCut.twNd (sT x).heap)), (HeadCut.twK (sT x).heap LW (recs.map (·.name)) LN CN && HeadCut.twAc (sT x).heap (importedModules rP.main.body) && HeadCut.twTb qv (sT x).heap && Xt (sT x) && ((sT x).gens.size == 0) && WL.all (HeadCut.twCn (sT x).heap)))) = some (plains.map (fun c => (some c.withCmp.plainShape : Option PlainShape)), bltViewBooted, true, true) := by kernel_rfl
end L37
namespace L37
open PySem PySem.W PySem.Calls PyProof.Rows HeadRun
theorem hr4 (w : World) (os : OsState) : (theRun w os).map (fun x => (recs.take 13).all fun d => HeadCut.twT (sT x).heap d.name) = some (true) := by kernel_rfl
end L37
namespace L37
open PySem PySem.W PySem.Calls PyProof.Rows HeadRun
theorem hr5 (w : World) (os : OsState) : (theRun w os).map (fun x => ((recs.drop 13).all fun d => HeadCut.twT (sT x).heap d.name) && (HeadCut.twBm (sT x).heap && HeadCut.twV qv (sT x).heap && (!HeadCut.twIn qv || HeadCut.twNs (sT x).heap))) = some (true) := by kernel_rfl
end L37
namespace L37
open PySem PySem.W PySem.Calls PyProof.Rows HeadRun
theorem hsq {q : Program} (e : qv = q) (w : World) (os : OsState) : (theRun w os).map (fun x => seenQ q lo (importedModules rP.main.body) (fun s => xlAt q [] s && recOk (RowW.records (OpenRow.toRowW (PySem.Challenge.rw_unwound_k37_whole_combed_beside_single_m).row)) s) x.abs) = some (openGood q lo) := by
  subst e
  obtain ⟨e1, e2, e3, e4, e5, e6, e7, e8, e9, e10⟩ := factsP
  exact HeadCut.seen_of e1 e2 e3 e4 e5 e6 e7 e8 e9 e10 (HeadCut.fcut 13 (hr1 w os) (hr2 w os) (hr3 w os) (hr4 w os) (hr5 w os))
end L37
set_option maxHeartbeats 2000000
set_option autoImplicit false
namespace EV
open PySem PySem.Spec PyProof.Rows L2
inductive Nk (K : PySem.W.Frag) (H : Hp) : NestedKey → V → Prop
  | non : Nk K H .none .non
  | bl (b : Bool) : Nk K H (.num (if b = true then 1 else 0)) (.bl b)
  | int (i : Int) : Nk K H (.num i) (.int i)
  | str (x : Str) : Nk K H (.text x) (.str x)
  | tup {a : Addr} {xs : List V} {ks : List NestedKey} : SqT K H a xs → ks.length = xs.length → (∀ (j : Nat) (k : NestedKey) (x : V), ks[j]? = some k → xs[j]? = some x → Nk K H k x) → Nk K H (.tup ks) (.ref a)
theorem all_nk {h : Heap} : ∀ {ks : List NestedKey} {us : List Value}, ks.length = us.length → (∀ (j : Nat) (k : NestedKey) (u : Value), ks[j]? = some k → us[j]? = some u → NestedIs h k u) → NestedAll h ks us
  | [], [], _, _ => .nil
  | k :: ks, u :: us, hl, f => .cons (f 0 k u rfl rfl) (all_nk (by simpa using hl) fun j k u h1 h2 => f (j + 1) k u (by simpa using h1) (by simpa using h2))
theorem Nk.is {X : Cx} {pins : List (Addr × Obj)} {σ : L2.St} {H : Hp} {s : Shared} (I : Inv X pins σ H s) {k : NestedKey} {v : V} (n : Nk X.K H k v) : ∀ u, RelV v u → NestedIs s.heap k u := by
  induction n with
  | non => intro u r; cases r; exact .none
  | bl b => intro u r; cases r; exact .bool rfl
  | int i => intro u r; obtain ⟨t, rfl⟩ := r; exact .int i t
  | str x => intro u r; obtain ⟨t, rfl⟩ := r; exact .text x t
  | @tup a xs ks hq hl f ih =>
    intro u r
    obtain rfl : u = Value.ref a := r
    obtain ⟨its, rv, ⟨o, e, hc, n, hd⟩, _⟩ := I.tuple hq
    refine .tup e hc hd (all_nk (by rw [List.toList_toArray, ← rv.length]; exact hl) fun j k w h1 h2 => ?_)
    have hj : j < xs.length := by rw [← hl]; exact (List.getElem?_eq_some_iff.mp h1).1
    obtain ⟨w', hw', rw'⟩ := rv.get (List.getElem?_eq_getElem hj)
    have : w' = w := by
      rw [List.toList_toArray] at h2
      rw [h2] at hw'
      exact (Option.some.inj hw').symm
    subst this
    exact ih j k xs[j] h1 (List.getElem?_eq_getElem hj) _ rw'
abbrev Dn := List (NestedKey × Addr × V)
def PR (p : NestedKey × Addr × V) (q : NestedKey × Addr × Value) : Prop := p.1 = q.1 ∧ p.2.1 = q.2.1 ∧ RelV p.2.2 q.2.2
def DnP (P : Program) (w : World) (a : Addr) (xs : Dn) (h : Heap) : Prop := xs.length ≤ sizeLine ∧ (a == sysModules) = false ∧ ∃ ys, Paired PR xs ys ∧ ∃ o es ep, h.get? a = some o ∧ o.ExactDict ∧ o.data = .dict es ep ∧ es.toList = ys.map (entryOfKey (nestedKind P w)) ∧ (ys.map (·.1)).Nodup
def dnO (P : Program) (w : World) (a : Addr) (xs : Dn) : HO := .ext (DnP P w a xs)
theorem dn_ok {P : Program} {w : World} {H : Hp} {h : Heap} {a : Addr} {xs : Dn} (x : DnP P w a xs h) : ObjOk P w H h a (dnO P w a xs) :=
  ⟨x, let ⟨_, _, _, _, o, _, _, e, _⟩ := x; ⟨o, e⟩, fun h1 h2 ⟨z1, z2, ys, z3, o, es, ep, e, r⟩ k => ⟨z1, z2, ys, z3, o, es, ep, k _ e, r⟩⟩
structure DnAt (P : Program) (w : World) (K : PySem.W.Frag) (H : Hp) (a : Addr) (xs : Dn) : Prop where
  obj : H a = some (dnO P w a xs) ∨ (xs = [] ∧ H a = some (.dK []))
  key : ∀ x ∈ xs, Nk K H x.1 (.ref x.2.1) ∧ x.1.depth ≤ 8
def atV (xs : Dn) (k : NestedKey) : Option (Addr × V) := (xs.find? fun x => decide (x.1 = k)).map (·.2)
def putV (xs : Dn) (k : NestedKey) (a : Addr) (v : V) : Dn := if (atV xs k).isSome then xs.map (fun x => if x.1 = k then (x.1, x.2.1, v) else x) else xs ++ [(k, a, v)]
theorem atV_rel : ∀ {xs : Dn} {ys : List (NestedKey × Addr × Value)}, Paired PR xs ys → ∀ k, (atV xs k = none ∧ atKey ys k = none) ∨ ∃ p q, atV xs k = some p ∧ atKey ys k = some q ∧ p.1 = q.1 ∧ RelV p.2 q.2
  | _, _, .nil, k => .inl ⟨rfl, rfl⟩
  | x :: xs, y :: ys, .cons h t, k => by
    obtain ⟨h1, h2, h3⟩ := h
    unfold atV atKey
    rw [List.find?_cons, List.find?_cons, ← h1]
    by_cases c : x.1 = k
    · rw [decide_eq_true c]
      exact .inr ⟨x.2, y.2, rfl, rfl, h2, h3⟩
    · rw [decide_eq_false c]
      exact atV_rel t k
theorem Paired.app1 {α β : Type} {F : α → β → Prop} {a : α} {b : β} (h : F a b) : ∀ {xs : List α} {ys : List β}, Paired F xs ys → Paired F (xs ++ [a]) (ys ++ [b])
  | _, _, .nil => .cons h .nil
  | _, _, .cons r t => .cons r (Paired.app1 h t)
theorem put_map {k : NestedKey} {v : V} {u : Value} (r : RelV v u) : ∀ {xs : Dn} {ys : List (NestedKey × Addr × Value)}, Paired PR xs ys → Paired PR (xs.map (fun x => if x.1 = k then (x.1, x.2.1, v) else x)) (ys.map (putAt k u))
  | _, _, .nil => .nil
  | x :: xs, y :: ys, .cons h t => by
    obtain ⟨h1, h2, h3⟩ := h
    refine .cons ?_ (put_map r t)
    unfold putAt
    rw [← h1]
    dsimp only
    by_cases c : x.1 = k
    · rw [if_pos c, if_pos c]; exact ⟨rfl, h2, r⟩
    · rw [if_neg c, if_neg c]; exact ⟨h1, h2, h3⟩
theorem put_rel {xs : Dn} {ys : List (NestedKey × Addr × Value)} {k : NestedKey} {b : Addr} {v : V} {u : Value} (h : Paired PR xs ys) (r : RelV v u) : Paired PR (putV xs k b v) (storedH ys k b u) := by
  unfold putV storedH
  rcases atV_rel h k with ⟨e1, e2⟩ | ⟨p, q, e1, e2, _⟩
  · rw [e1, e2]; exact Paired.app1 ⟨rfl, rfl, r⟩ h
  · rw [e1, e2]; exact put_map r h
theorem putV_length (xs : Dn) (k : NestedKey) (b : Addr) (v : V) : (putV xs k b v).length ≤ xs.length + 1 := by
  unfold putV
  split
  · rw [List.length_map]; omega
  · rw [List.length_append]; exact Nat.le_refl _
section
variable {X : Cx} {pins : List (Addr × Obj)} {σ : L2.St} {H : Hp} {s : Shared} {a b : Addr} {xs : Dn} {k : NestedKey} {A : Around} {E : Value → Shared → Prop}
theorem dn_of (I : Inv X pins σ H s) (D : DnAt X.prog X.w X.K H a xs) : xs.length ≤ sizeLine ∧ (a == sysModules) = false ∧ ∃ ys, Paired PR xs ys ∧ s.heap.DictOfH (nestedKind X.prog X.w) a ys := by
  have keys : ∀ {ys : List (NestedKey × Addr × Value)}, Paired PR xs ys → ∀ y ∈ ys, (nestedKind X.prog X.w).is s.heap y.1 y.2.1 := by
    intro ys p y hy
    have key := D.key
    clear D
    induction p with
    | nil => cases hy
    | @cons x z xs zs h t ih =>
      rcases List.mem_cons.mp hy with rfl | hy
      · obtain ⟨k1, k2⟩ := key x (List.mem_cons_self ..)
        obtain ⟨h1, h2, _⟩ := h
        rw [← h1, ← h2]
        exact ⟨k1.is I _ rfl, k2⟩
      · exact ih hy fun x hx => key x (List.mem_cons_of_mem _ hx)
  rcases D.obj with e | ⟨rfl, e⟩
  · have z : ObjOk X.prog X.w H s.heap a (.ext (DnP X.prog X.w a xs)) := I.hok a _ e
    obtain ⟨z1, z2, ys, z3, o, es, ep, e1, e2, e3, e4, e5⟩ := z.1
    exact ⟨z1, z2, ys, z3, o, es, ep, e1, e2, e3, e4, keys z3, e5⟩
  · obtain ⟨z, hd, vs, rel, o, es, ep, e1, e2, e3, _, e5, _⟩ := dk_of I.hok e
    have hv : vs = [] := by
      have := rel.length
      cases vs with
      | nil => rfl
      | cons _ _ => simp at this
    subst hv
    have hes : es.toList = [] := by
      cases q : es.toList with
      | nil => rfl
      | cons y ys => rw [q] at e5; cases e5
    exact ⟨Nat.zero_le _, hd, [], .nil, o, es, ep, e1, e2, e3, by rw [hes]; rfl, fun x hx => (nomatch hx), List.nodup_nil⟩
theorem dn_get {p : Addr × V} {Q : Value → Shared → Prop} (hu : A.units + 9 < cLine) (I : Inv X pins σ H s) (D : DnAt X.prog X.w X.K H a xs) (hk : Nk X.K H k (.ref b)) (hd : k.depth ≤ 8) (hp : atV xs k = some p) (h : ∀ u s', Inv X pins σ H s' → RelV p.2 u → Q u s') :
    wpAny (model X.prog X.w) A (getItem (.ref a) (.ref b)) Q E s := by
  obtain ⟨_, hs, ys, rel, dd⟩ := dn_of I D
  rcases atV_rel rel k with ⟨e1, e2⟩ | ⟨p', q, e1, e2, _, rv⟩
  · rw [hp] at e1; cases e1
  · rw [hp] at e1; cases e1
    exact wpAny_getItem_heap (knd := nestedKind X.prog X.w) (k := k) (by show A.units + 1 + 8 < cLine; omega) ⟨hk.is I _ rfl, hd⟩ dd e2 (h _ _ (I.tok _) rv)
theorem dn_set {v : V} {u : Value} {Q : Unit → Shared → Prop} (hu : A.units + 9 < cLine) (I : Inv X pins σ H s) (D : DnAt X.prog X.w X.K H a xs) (hk : Nk X.K H k (.ref b)) (hd : k.depth ≤ 8) (hl : xs.length < sizeLine) (rv : RelV v u)
    (h : ∀ s', Inv X pins σ (upd H a (dnO X.prog X.w a (putV xs k b v))) s' → Q () s') : wpAny (model X.prog X.w) A (setItem (.ref a) (.ref b) u) Q E s := by
  obtain ⟨hz, hs, ys, rel, dd⟩ := dn_of I D
  have hly : ys.length ≤ sizeLine := by rw [← Paired.length rel]; exact hz
  refine wpAny_setItem_heap (knd := nestedKind X.prog X.w) (k := k) (hsz := hly) (by show A.units + 1 + 8 < cLine; omega) ⟨hk.is I _ rfl, hd⟩ dd fun h' hm' hs' => h _ ?_
  obtain ⟨o, es, ep, e1, e2, e3, e4, e5, e6⟩ := hm'
  refine d_write I ?_ hs' ⟨o, e1⟩ (dn_ok ⟨Nat.le_trans (putV_length ..) hl, hs, _, put_rel rel rv, o, es, ep, e1, e2, e3, e4, e6⟩)
  rcases D.obj with e | ⟨_, e⟩
  · rw [e]; exact True.intro
  · rw [e]; exact True.intro
end
end EV
namespace EV
open PySem PySem.Spec PyProof.Rows L2
def KeyAt (h : Heap) (k : NestedKey) (b : Addr) : Prop := NestedIs h k (.ref b) ∧ k.depth ≤ 8
section
variable {P : Program} {w : World}
def Clear (P : Program) (w : World) (n : Nat) (s : Shared) (v : Value) : Prop := ∀ (A : Around) (E : Value → Shared → Prop) (Q : Bool → Shared → Prop), Q false s → wpAny (model P w) A (ofAClassStatement n v) Q E s
def Told (P : Program) (w : World) (n : Nat) (s : Shared) (v : Value) : Prop := ∀ (A : Around) (E : Value → Shared → Prop) (Q : Bool → Shared → Prop), (∀ b, Q b s) → wpAny (model P w) A (hashByValue n v) Q E s
theorem Clear.flat {n : Nat} {s : Shared} {v : Value} (h : carriedByValue v = true) : Clear P w n s v := fun A E Q q => by
  cases v <;> first | cases h; done | (cases n <;> exact wpAny_pure q)
theorem Clear.tup {n : Nat} {s : Shared} {a : Addr} {o : Obj} {vs : Array Value} {m : Nat} (e : s.heap.get? a = some o) (c : o.cls = .type "tuple") (d : o.data = .seq vs m) (each : ∀ v ∈ vs.toList, Clear P w n s v) : Clear P w (n + 1) s (.ref a) := fun A E Q q => by
  unfold ofAClassStatement
  refine wpAny_bind (wpAny_typeOf (T := "tuple") ⟨o, e, c⟩ ?_)
  simp only [beq_self_eq_true, if_true]
  refine wpAny_bind (wpAny_pure ?_)
  simp only [Bool.not_true, Bool.false_eq_true, if_false]
  refine wpAny_bind (wpAny_seqItems e d (wpAny_bind ?_))
  show wpAny _ _ (forIn vs _ _) _ _ s
  rw [← Array.forIn_toList]
  refine wpAny_forIn_list _ (fun l r z => r.1 = none ∧ z = s ∧ ∀ v ∈ l, Clear P w n s v) _ (fun v l r z y => ?_) (fun r z y => ?_) _ _ ⟨rfl, rfl, each⟩
  · obtain ⟨e0, rfl, f⟩ := y
    refine wpAny_bind (f v (List.mem_cons_self ..) _ _ _ ?_)
    simp only [Bool.false_eq_true, if_false]
    exact wpAny_pure ⟨rfl, rfl, fun u m => f u (List.mem_cons_of_mem _ m)⟩
  · obtain ⟨r1, r2⟩ := r
    obtain ⟨e0, rfl, _⟩ := y
    cases e0
    exact wpAny_pure q
theorem Told.tup {n : Nat} {s : Shared} {a : Addr} {o : Obj} {vs : Array Value} {m : Nat} (e : s.heap.get? a = some o) (c : o.cls = .type "tuple") (d : o.data = .seq vs m) (each : ∀ v ∈ vs.toList, Told P w n s v) : Told P w (n + 1) s (.ref a) := fun A E Q q => by
  unfold hashByValue
  refine wpAny_bind (wpAny_specialOf (T := "tuple") ⟨o, e, c⟩ F.slot_tuple_hash.lookup ?_)
  show wpAny _ _ (seqItems? (.ref a) >>= _) _ _ s
  refine wpAny_bind (wpAny_seqItems e d (wpAny_bind ?_))
  show wpAny _ _ (forIn vs _ _) _ _ s
  rw [← Array.forIn_toList]
  refine wpAny_forIn_list _ (fun l r z => z = s ∧ ∀ v ∈ l, Told P w n s v) _ (fun v l r z y => ?_) (fun r z y => ?_) _ _ ⟨rfl, each⟩
  · obtain ⟨rfl, f⟩ := y
    refine wpAny_bind (f v (List.mem_cons_self ..) _ _ _ fun b => ?_)
    cases b with
    | true =>
      simp only [Bool.not_true, Bool.false_eq_true, if_false]
      exact wpAny_pure ⟨rfl, fun u m => f u (List.mem_cons_of_mem _ m)⟩
    | false =>
      simp only [Bool.not_false, if_true]
      exact wpAny_pure (wpAny_pure (q _))
  · obtain ⟨r1, r2⟩ := r
    obtain ⟨rfl, _⟩ := y
    cases r1 with
    | none => exact wpAny_pure (q _)
    | some b => exact wpAny_pure (q b)
theorem KeyAt.stay {h h' : Heap} {k : NestedKey} {b : Addr} (x : KeyAt h k b) (f : ∀ c o vs n, h.get? c = some o → o.data = .seq vs n → h'.get? c = some o) : KeyAt h' k b := ⟨x.1.at f, x.2⟩
theorem KeyAt.one {h : Heap} {j k : NestedKey} {b : Addr} (x : KeyAt h j b) (y : KeyAt h k b) : j = k := x.1.inj _ _ _ y.1
end
end EV
set_option maxHeartbeats 4000000
namespace EV
open PySem PySem.Spec PyProof.Rows L2
abbrev Mem := List (NestedKey × Addr)
def rowK (w : World) (p : NestedKey × Addr) : Int × Value := (p.1.hash w, .ref p.2)
def hsK (w : World) (l : Mem) : List Int := l.map fun p => p.1.hash w
structure StN (w : World) (h : Heap) (a : Addr) (l : Mem) (es : Array (Int × Value)) (ep : Nat) (t : SetTable) : Prop where
  ob : ∃ o, h.get? a = some o ∧ o.ExactSet ∧ o.data = .set es ep t
  rows : es.toList = l.map (rowK w)
  tab : TabOk t (hsK w l)
  nd : (l.map (·.1)).Nodup
  led : w.params.followText "set-order" = true ∨ t.led = true
  room : l.length * 5 < t.mask * 3
  few : l.length < 64
section
variable {P : Program} {w : World} {A : Around} {E : Value → Shared → Prop} {s : Shared} {a : Addr} {l : Mem} {es : Array (Int × Value)} {ep : Nat} {t : SetTable} {h : Heap}
theorem StN.size (R : StN w h a l es ep t) : es.size = l.length := by
  rw [← Array.length_toList, R.rows, List.length_map]
theorem hsK_len (w : World) (l : Mem) : (hsK w l).length = l.length := List.length_map ..
theorem fits_of {t : SetTable} {l : Mem} {n : Nat} (T : TabOk t (hsK w l)) (r : l.length ≤ t.mask) (e : n = l.length) : t.fits n = true := by
  subst e
  have z := T.sz
  rw [hsK_len] at z
  unfold SetTable.fits SetTable.fill
  simp only [T.dm, z, beq_self_eq_true, Bool.true_and, decide_eq_true_eq]
  exact r
theorem StN.fits (R : StN w h a l es ep t) : t.fits es.size = true := fits_of R.tab (by have := R.room; omega) R.size
theorem StN.ent (R : StN w h a l es ep t) {i : Nat} {p : NestedKey × Addr} (e : l[i]? = some p) : es[i]? = some (rowK w p) := by
  rw [← Array.getElem?_toList, R.rows, List.getElem?_map, e]; rfl
end
end EV
namespace EV
open PySem PySem.Spec PyProof.Rows L2
section
variable {P : Program} {w : World} {A : Around} {E : Value → Shared → Prop} {s : Shared} {a : Addr} {l : Mem} {es : Array (Int × Value)} {ep : Nat} {t : SetTable} {h : Heap}
end
end EV
namespace EV
open PySem PySem.Spec PyProof.Rows L2
def newS (w : World) : Obj := { cls := .type "set", dict := none, data := .set #[] 0 (.fresh 0 0 (!w.params.followText "set-order")) }
section
variable {P : Program} {w : World} {A : Around} {E : Value → Shared → Prop} {s : Shared}
structure Fills (P : Program) (w : World) (A : Around) (S I : Addr) (n : Nat) (Pv : Nat → Value → Prop) (J : Nat → Heap → Prop) : Prop where
  stay : ∀ (i : Nat) (h h' : Heap), J i h → (∀ b o, b ≠ I → h.get? b = some o → h'.get? b = some o) → J i h'
  add : ∀ (i : Nat) (v : Value) (z : Shared) (E : Value → Shared → Prop) (Q : Bool → Shared → Prop), i < n → Pv i v → J i z.heap → (∀ c h' m, Heap.SameBut S z.heap h' → z.toks ≤ m → J (i + 1) h' → Q c { z with heap := h', toks := m }) → wpAny (model P w) A (setAdd S v) Q E z
end
end EV
namespace EV
open PySem PySem.Spec PyProof.Rows L2
def SnP (w : World) (a : Addr) (l : Mem) (h : Heap) : Prop := ∃ l' es ep t, l'.Perm l ∧ StN w h a l' es ep t
def snO (w : World) (a : Addr) (l : Mem) : HO := .ext (SnP w a l)
def MemK (K : PySem.W.Frag) (H : Hp) (l : Mem) : Prop := ∀ p ∈ l, Nk K H p.1 (.ref p.2) ∧ p.1.depth ≤ 8
def putM (l : Mem) (k : NestedKey) (b : Addr) : Mem := if k ∈ l.map (·.1) then l else l ++ [(k, b)]
theorem StN.at {w : World} {h h' : Heap} {a : Addr} {l : Mem} {es : Array (Int × Value)} {ep : Nat} {t : SetTable} (R : StN w h a l es ep t) (f : ∀ o, h.get? a = some o → h'.get? a = some o) : StN w h' a l es ep t :=
  ⟨let ⟨o, e, r⟩ := R.ob; ⟨o, f o e, r⟩, R.rows, R.tab, R.nd, R.led, R.room, R.few⟩
theorem SnP.at {w : World} {h h' : Heap} {a : Addr} {l : Mem} (x : SnP w a l h) (f : ∀ o, h.get? a = some o → h'.get? a = some o) : SnP w a l h' := by
  obtain ⟨l', es, ep, t, pm, R⟩ := x
  exact ⟨l', es, ep, t, pm, R.at f⟩
theorem SnP.ob {w : World} {h : Heap} {a : Addr} {l : Mem} (x : SnP w a l h) : ∃ o, h.get? a = some o := by
  obtain ⟨l', es, ep, t, pm, R⟩ := x
  obtain ⟨o, e, _⟩ := R.ob
  exact ⟨o, e⟩
theorem sn_ok {P : Program} {w : World} {H : Hp} {h : Heap} {a : Addr} {l : Mem} (x : SnP w a l h) : ObjOk P w H h a (snO w a l) := ⟨x, x.ob, fun h1 h2 y k => SnP.at y k⟩
theorem led_new (w : World) : w.params.followText "set-order" = true ∨ (!w.params.followText "set-order") = true := by
  cases w.params.followText "set-order" with
  | true => exact .inl rfl
  | false => exact .inr rfl
theorem StN.fresh {w : World} {h : Heap} {a : Addr} (e : h.get? a = some (newS w)) : StN w h a [] #[] 0 (.fresh 0 0 (!w.params.followText "set-order")) :=
  ⟨⟨newS w, e, ⟨rfl, rfl, rfl⟩, rfl⟩, rfl, ⟨.nil, rfl, rfl, .inl rfl, fun x m => (by cases m), fun i x j m => (by cases m)⟩, .nil, led_new w, by show 0 * 5 < 7 * 3; decide, by decide⟩
theorem SnP.fresh {w : World} {h : Heap} {a : Addr} (e : h.get? a = some (newS w)) : SnP w a [] h := ⟨[], _, _, _, .nil, .fresh e⟩
theorem SnP.none {w : World} {h : Heap} {a : Addr} (x : SnP w a [] h) : SetR w h a (fun _ => false) 0 := by
  obtain ⟨l', es, ep, t, pm, R⟩ := x
  obtain rfl := List.perm_nil.mp pm
  obtain ⟨o, e, ex, d⟩ := R.ob
  have hes : es.toList = [] := R.rows
  have hsz : es.size = 0 := R.size
  exact ⟨o, es, ep, t, e, ex, d, (by rw [hes]; exact fun e m => nomatch m), (by rw [hes]; exact .nil), (fun k => by rw [hes]; simp), (by rw [hsz]; decide), R.fits, hsz, R.tab.ris, R.led⟩
section
variable {X : Cx} {pins : List (Addr × Obj)} {σ : L2.St} {H : Hp} {s : Shared} {a b : Addr} {l : Mem} {k : NestedKey}
end
end EV
namespace EV
open PySem PySem.Spec PyProof.Rows L2
section
variable {P : Program} {w : World} {A : Around} {s : Shared}
end
section
variable {X : Cx}
end
end EV
namespace EV
open PySem PySem.Spec PyProof.Rows L2 PySem.W PySem.Calls
section
variable {prog : Program} {w : World} {A : Around} {E : Value → Shared → Prop} {s : Shared}
def hdB : PyData → Bool
  | .tuple (_ :: _) => true
  | _ => false
theorem lt_tup {Q : Value → Shared → Prop} {l b : Addr} {xs ys : Array Value} {e r : Nat → Bool} (hl : s.heap.IsTuple l xs) (hb : s.heap.IsTuple b ys) (he : ∀ j (h1 : j < xs.size) (h2 : j < ys.size), SeqAt.EqAt A.in1 s xs[j] ys[j] (e j))
    (hr : ∀ j (h1 : j < xs.size) (h2 : j < ys.size), e j = false → SeqAt.RcLt A.in1 s xs[j] ys[j] (r j)) (h : Q (.bool (SeqAt.firstLt e r (decide (xs.size < ys.size)) (List.range (min xs.size ys.size)))) s) :
    wpAny (model prog w) A (call (.builtin "tuple.__lt__") [.ref l, .ref b]) Q E s := by
  obtain ⟨⟨c1, d1, t1, s1⟩, ho, hc, n, hd⟩ := id hl
  obtain ⟨⟨c2, d2, t2, s2⟩, ho2, hc2, n2, hd2⟩ := id hb
  simp only at hc hd hc2 hd2
  subst hc hd hc2 hd2
  exact call_meets F.slot_tuple_lt ⟨_, ho, rfl⟩ F.entry_tuple_lt (F.args_tuple_lt_2 _ _) (SeqAt.tuple_ltAt l b xs ys n n2 d1 d2 s1 s2 e r) ⟨ho, ho2, he, hr, h⟩
theorem one_tup {xs ys : List PyData} {a b : Value} {as bs : List Addr} {Q : Bool → Shared → Prop} (ra : Reads s.heap a (.tuple xs) as) (rb : Reads s.heap b (.tuple ys) bs) (hal : alikeAll xs ys = true)
    (hu : A.units + min (PyData.depth (.tuple xs)) (PyData.depth (.tuple ys)) < cLine) (hq : Q (dataLt (.tuple xs) (.tuple ys)) s) : wpAny (model prog w) A (oneLt' true a b) Q E s := by
  cases ra with
  | @tuple l o vs n _ as₁ h1 h2 h3 h4 =>
    cases rb with
    | @tuple l' o' vs' n' _ bs₁ k1 k2 k3 k4 =>
      have n1 : vs.size = xs.length := by simpa using SeqAt.ReadsAll.length _ _ _ h4
      have n2 : vs'.size = ys.length := by simpa using SeqAt.ReadsAll.length _ _ _ k4
      rw [dataLt_tuple, ← firstLt_toks xs ys hal, ← n1, ← n2] at hq
      rw [oneLt'_eq]
      simp only [if_true]
      refine wpAny_bind (wpAny_cRoomFor (SeqAt.room_here hu) ?_)
      refine wpAny_bind (wpAny_callSpecialIfBound?_slot (T := "tuple") ⟨_, h1, h2⟩ F.slot_tuple_lt (lt_tup (e := SeqAt.pairEq xs ys) (r := fun j => dataLt (xs.getD j .none) (ys.getD j .none)) ⟨_, h1, h2, _, h3⟩ ⟨_, k1, k2, _, k3⟩ (fun j j1 j2 => ?_) (fun j j1 j2 hj => ?_) ?_))
      · have z := eqAt_alikeAll xs ys A.in1 s vs.toList vs'.toList _ _ h4 k4 hal (SeqAt.room_in hu) j (by simpa using j1) (by simpa using j2)
        simpa using z
      · have z := rcLt_alikeAll xs ys A.in1 s vs.toList vs'.toList _ _ h4 k4 hal (SeqAt.room_in hu) j (by simpa using j1) (by simpa using j2) hj
        simpa using z
      · exact wpAny_truthy_bool hq
theorem firsts_tup {M : Model} : ∀ {vs : List Value} {ds : List PyData} {Q : List (Option Value) → Shared → Prop}, EachIs (fun v d => ∃ as, Reads s.heap v d as) vs ds → (∀ d ∈ ds, ∃ xs, d = .tuple xs) → (∀ os : List (Option Value), os.map Option.isSome = ds.map hdB → Q os s) → wpAny M A (vs.mapM firstOfTuple') Q E s
  | _, _, _, .nil, _, h => by rw [List.mapM_nil]; exact wpAny_pure (h [] rfl)
  | v :: vs, d :: ds, Q, .cons ⟨as, r⟩ t, ht, h => by
    obtain ⟨xs, rfl⟩ := ht d (List.mem_cons_self ..)
    rw [List.mapM_cons]
    refine wpAny_bind ?_
    cases r with
    | @tuple l o items n _ _ h1 h2 h3 h4 =>
      rw [kas_first_eq]
      refine wpAny_bind (Looks.here (show Looks M s.heap (typeOf (.ref l)) o.cls from (Looks.ld h1).andThen .now) ?_)
      rw [h2, if_neg (by decide)]
      refine wpAny_bind (listItems_at h1 h3 (wpAny_pure ?_))
      refine wpAny_bind (firsts_tup t (fun d m => ht d (List.mem_cons_of_mem _ m)) fun os e => wpAny_pure (h _ ?_))
      have z : (items[0]?).isSome = hdB (.tuple xs) := by
        have sz : items.size = xs.length := by simpa using SeqAt.ReadsAll.length _ _ _ h4
        cases xs with
        | nil =>
          have : items[0]? = none := by
            rw [Array.getElem?_eq_none_iff, sz]; exact Nat.le_refl _
          rw [this]; rfl
        | cons x r =>
          have : items[0]? = some (items[0]'(by rw [sz]; exact Nat.succ_pos _)) := Array.getElem?_eq_getElem _
          rw [this]; rfl
      rw [List.map_cons, List.map_cons, z, e]
theorem kind_tup {M : Model} {v : Value} {vs : List Value} {d : PyData} {ds : List PyData} {Q : SortKind → Shared → Prop} (e : EachIs (fun v d => ∃ as, Reads s.heap v d as) (v :: vs) (d :: ds)) (ht : ∀ x ∈ d :: ds, ∃ xs, x = .tuple xs) (hn : (d :: ds).all hdB = false)
    (h : Q (bif hdB d then general' else oneType') s) : wpAny M A (keyKind' (v :: vs).toArray) Q E s := by
  rw [keyKind'_eq, List.mapM_toArray, map_eq_pure_bind]
  refine wpAny_bind (wpAny_bind (firsts_tup e ht fun os eo => wpAny_pure ?_))
  have z : (os.toArray.all fun x => x.isSome) = false := by
    rw [List.all_toArray]
    have q : (os.map Option.isSome).all id = ((d :: ds).map hdB).all id := by rw [eo]
    rw [List.all_map, List.all_map] at q
    exact q.trans hn
  rw [z, if_neg Bool.false_ne_true]
  cases os with
  | nil => cases eo
  | cons o os =>
    rw [List.map_cons, List.map_cons, List.cons.injEq] at eo
    have f : (((o :: os).toArray[0]?).bind id).isSome = hdB d := by
      rw [← eo.1]
      cases o <;> rfl
    rw [f]
    cases c : hdB d with
    | true =>
      rw [c, cond_true] at h
      rw [if_pos rfl]
      exact wpAny_pure h
    | false =>
      rw [c, cond_false] at h
      rw [if_neg Bool.false_ne_true, oneTypeOnly'_eq, List.mapM_toArray, map_eq_pure_bind]
      refine wpAny_bind (wpAny_bind (wpAny_bind (kas_mapM (r := .type "tuple") _ (fun u hu Q' hq => ?_) (wpAny_pure ?_))))
      · obtain ⟨d', hd', as, r⟩ := e.left u hu
        obtain ⟨xs, rfl⟩ := ht d' hd'
        exact (looks_reads r).here hq
      · have a1 : ((List.map (fun _ => Value.type "tuple") (v :: vs)).toArray.all fun x => x == Value.type "tuple") = true := by
          rw [List.all_toArray, List.all_map, List.all_eq_true]
          exact fun _ _ => rfl
        have a0 : (List.map (fun _ => Value.type "tuple") (v :: vs)).toArray[0]? = some (.type "tuple") := rfl
        rw [a0]
        simp only [a1, if_true]
        exact wpAny_pure (wpAny_pure h)
def SortsD (ds : List PyData) : Prop := W.Sortable ds ∨ ∀ d ∈ ds, ∃ xs, d = .tuple xs
theorem SortsD.at {vs : List Value} {ds : List PyData} (e : EachIs (fun v d => ∃ as, Reads s.heap v d as) vs ds) (hal : AllAlike ds) (hk : SortsD ds) (hu : ∀ d, d ∈ ds → A.units + d.depth < cLine) : SortsAt prog w A s (dataKind s.heap ds) vs := by
  rcases hk with hk | ht
  · exact SortsAt.data e hal hk hu
  cases hn : ds.all hdB with
  | true =>
    refine SortsAt.data e hal (.inl fun d hd => ?_) hu
    have z := List.all_eq_true.mp hn d hd
    obtain ⟨xs, rfl⟩ := ht d hd
    cases xs with
    | nil => cases z
    | cons x r => exact ⟨x, r, rfl⟩
  | false =>
    have room : ∀ {d d' : PyData}, d ∈ ds → A.units + min d.depth d'.depth < cLine := fun {d d'} hd => Nat.lt_of_le_of_lt (Nat.add_le_add_left (Nat.min_le_left _ _) _) (hu d hd)
    refine ⟨fun v hv => ?_, ?_⟩
    · obtain ⟨d, hd, as, r⟩ := e.left v hv
      exact ⟨_, dataKind_some hal hd r⟩
    · cases e with
      | nil => cases hn
      | @cons v d vs' ds' r t =>
        refine ⟨bif hdB d then general' else oneType', ?_, fun h2 E Q hq => kind_tup (.cons r t) ht hn hq⟩
        intro E x y a b Q ha hb hq
        obtain ⟨d1, as, hd, ra, rfl⟩ := dataKind_inv ha
        obtain ⟨d2, as', hd', rb, rfl⟩ := dataKind_inv hb
        have hdd := hal d1 hd d2 hd'
        have hroom := room (d' := d2) hd
        obtain ⟨xs, rfl⟩ := ht d1 hd
        obtain ⟨ys, rfl⟩ := ht d2 hd'
        cases hdB d with
        | true => exact oneLt_alike (f := false) (fun z => nomatch z) ra rb hdd (fun z => nomatch z) hroom hq
        | false =>
          rw [cond_false, keyLt'_oneType]
          exact one_tup ra rb (by simpa [alike] using hdd) hroom hq
variable {β : Type} {vs : List Value} {bs : List β} {enc : β → PyData} {R : Value → β → Prop}
end
end EV
namespace EV
open PySem PySem.Spec PyProof.Rows L2
def ins {α : Type} (le : α → α → Bool) (x : α) : List α → List α
  | [] => [x]
  | y :: r => bif le x y then x :: y :: r else y :: ins le x r
section
variable {α : Type} {le : α → α → Bool}
def chainL (lt : α → α → Bool) : List α → Bool
  | [] => true
  | [_] => true
  | x :: y :: r => lt x y && chainL lt (y :: r)
end
def leD {α : Type} (p q : α × PyData) : Bool := !W.dataLt q.2 p.2
def ltD {α : Type} (p q : α × PyData) : Bool := W.dataLt p.2 q.2
section
variable {X : Cx}
end
end EV
set_option maxHeartbeats 2000000
namespace EV
open PySem PySem.Spec PyProof.Rows L2
inductive W where
  | non | bl (b : Bool) | int (i : Int) | str (x : Str) | tup (ws : List W) | ref (n : Nat) | df (i : Nat) | clo (k : Nat) (ws : List W)
inductive Ob where
  | lst (ws : List W)
  | fz (ws : List W)
  | dk (kvs : List (Key × W))
  | dn (kvs : List (W × W))
  | st (ws : List W)
  | si (is : List Int)
  | ob (c : Nat) (fs : List (Str × W))
  | fd (kvs : List (Key × W))
  | fn (kvs : List (W × W))
  | pt (ws : List W)
  | er (c : Nat) (d : Option Nat)
  | xo
def Ob.plain : Ob → Bool
  | .lst _ => true
  | .fz _ => true
  | .dk _ => true
  | .ob _ _ => true
  | _ => false
inductive Tr where
  | lf | nd (o : Option Ob) (l r : Tr)
noncomputable def Tr.get (t : Tr) : Nat → Option Ob :=
  Tr.rec (motive := fun _ => Nat → Option Ob) (fun _ => none) (fun o _ _ gl gr n => bif Nat.beq n 0 then o else bif Nat.beq (n % 2) 1 then gl (n / 2) else gr (n / 2 - 1)) t
noncomputable def Tr.put (k : Nat) : Tr → Nat → Ob → Tr :=
  Nat.rec (motive := fun _ => Tr → Nat → Ob → Tr) (fun t _ _ => t) (fun _ put t n b => Tr.rec (motive := fun _ => Tr)
    (bif Nat.beq n 0 then .nd (some b) .lf .lf else bif Nat.beq (n % 2) 1 then .nd none (put .lf (n / 2) b) .lf else .nd none .lf (put .lf (n / 2 - 1) b))
    (fun o l r _ _ => bif Nat.beq n 0 then .nd (some b) l r else bif Nat.beq (n % 2) 1 then .nd o (put l (n / 2) b) r else .nd o l (put r (n / 2 - 1) b)) t) k
theorem Tr.get_l {n : Nat} : Tr.lf.get n = none := rfl
theorem Tr.get_n {o : Option Ob} {l r : Tr} {n : Nat} : (Tr.nd o l r).get n = bif Nat.beq n 0 then o else bif Nat.beq (n % 2) 1 then l.get (n / 2) else r.get (n / 2 - 1) := rfl
theorem Tr.put_l {k n : Nat} {b : Ob} : Tr.put (k + 1) .lf n b = bif Nat.beq n 0 then .nd (some b) .lf .lf else bif Nat.beq (n % 2) 1 then .nd none (Tr.put k .lf (n / 2) b) .lf else .nd none .lf (Tr.put k .lf (n / 2 - 1) b) := rfl
theorem Tr.put_n {k n : Nat} {b : Ob} {o : Option Ob} {l r : Tr} : Tr.put (k + 1) (.nd o l r) n b = bif Nat.beq n 0 then .nd (some b) l r else bif Nat.beq (n % 2) 1 then .nd o (Tr.put k l (n / 2) b) r else .nd o l (Tr.put k r (n / 2 - 1) b) := rfl
noncomputable def nthR {α : Type} (xs : List α) : Nat → Option α := List.rec (motive := fun _ => Nat → Option α) (fun _ => none) (fun x _ ih i => Nat.rec (motive := fun _ => Option α) (some x) (fun m _ => ih m) i) xs
theorem nthR_eq {α : Type} : ∀ (xs : List α) (i : Nat), nthR xs i = xs[i]?
  | [], _ => rfl
  | _ :: _, 0 => rfl
  | _ :: xs, i + 1 => (nthR_eq xs i).trans (by simp)
noncomputable def setR {α : Type} (xs : List α) (i : Nat) (w : α) : List α := List.rec (motive := fun _ => Nat → List α) (fun _ => []) (fun x xs ih i => Nat.rec (motive := fun _ => List α) (w :: xs) (fun m _ => x :: ih m) i) xs i
theorem setR_eq {α : Type} : ∀ (xs : List α) (i : Nat) (w : α), setR xs i w = xs.set i w
  | [], _, _ => rfl
  | _ :: _, 0, _ => rfl
  | x :: xs, i + 1, w => congrArg (x :: ·) (setR_eq xs i w)
theorem beq_t {a b : Nat} (h : a = b) : Nat.beq a b = true := by subst h; exact Nat.beq_refl a
theorem beq_f {a b : Nat} (h : a ≠ b) : Nat.beq a b = false := by
  cases e : Nat.beq a b with
  | false => rfl
  | true => exact absurd (Nat.eq_of_beq_eq_true e) h
theorem put_same : ∀ (k : Nat) (t : Tr) (n : Nat) (b : Ob), n + 1 < 2 ^ k → (Tr.put k t n b).get n = some b
  | 0, _, n, _, h => by simp at h
  | k + 1, t, n, b, h => by
    have h2 : 2 ^ (k + 1) = 2 ^ k * 2 := Nat.pow_succ ..
    by_cases c0 : n = 0
    · subst c0
      cases t <;> rfl
    · by_cases c1 : n % 2 = 1
      · have i := fun t => put_same k t (n / 2) b (by omega)
        cases t <;> simp only [Tr.put_l, Tr.put_n, beq_f c0, beq_t c1, cond_true, cond_false, Tr.get_l, Tr.get_n, i]
      · have i := fun t => put_same k t (n / 2 - 1) b (by omega)
        cases t <;> simp only [Tr.put_l, Tr.put_n, beq_f c0, beq_f c1, cond_true, cond_false, Tr.get_l, Tr.get_n, i]
theorem get_nd {o : Option Ob} {l r : Tr} {i : Nat} : (Tr.nd o l r).get i = if i = 0 then o else if i % 2 = 1 then l.get (i / 2) else r.get (i / 2 - 1) := by
  by_cases d0 : i = 0
  · subst d0; rfl
  · rw [if_neg d0]
    by_cases d1 : i % 2 = 1
    · rw [if_pos d1]; simp only [Tr.get_n, beq_f d0, beq_t d1, cond_true, cond_false]
    · rw [if_neg d1]; simp only [Tr.get_n, beq_f d0, beq_f d1, cond_true, cond_false]
theorem get_lf {i : Nat} : Tr.lf.get i = none := rfl
theorem put_ne : ∀ (k : Nat) (t : Tr) (n i : Nat) (b : Ob), i ≠ n → (Tr.put k t n b).get i = t.get i
  | 0, _, _, _, _, _ => rfl
  | k + 1, t, n, i, b, h => by
    by_cases c0 : n = 0
    · subst c0
      cases t <;> simp [Tr.put_l, Tr.put_n, get_nd, get_lf, h]
    · by_cases c1 : n % 2 = 1
      · have q : ∀ t, i % 2 = 1 → (Tr.put k t (n / 2) b).get (i / 2) = t.get (i / 2) := fun t z => put_ne k t _ _ b (by omega)
        cases t <;> simp only [Tr.put_l, Tr.put_n, beq_f c0, beq_t c1, cond_true, cond_false, get_nd, get_lf]
        · split
          · rfl
          · split
            · rename_i z; rw [q _ z]; rfl
            · rfl
        · split
          · rfl
          · split
            · rename_i z; rw [q _ z]
            · rfl
      · have q : ∀ t, i ≠ 0 → i % 2 ≠ 1 → (Tr.put k t (n / 2 - 1) b).get (i / 2 - 1) = t.get (i / 2 - 1) := fun t z1 z => put_ne k t _ _ b (by omega)
        cases t <;> simp only [Tr.put_l, Tr.put_n, beq_f c0, beq_f c1, cond_true, cond_false, get_nd, get_lf]
        · split
          · rfl
          · split
            · rfl
            · rename_i z1 z; rw [q _ z1 z]; rfl
        · split
          · rfl
          · split
            · rfl
            · rename_i z1 z; rw [q _ z1 z]
structure Hpe where
  nx : Nat
  t : Tr
  lk : List Nat
def Hpe.get (h : Hpe) (n : Nat) : Option Ob := h.t.get n
def Hpe.set (h : Hpe) (n : Nat) (o : Ob) : Hpe := ⟨h.nx, Tr.put 41 h.t n o, h.lk⟩
def Hpe.new (h : Hpe) (o : Ob) : Hpe := ⟨h.nx + 1, Tr.put 41 h.t h.nx o, h.lk⟩
def Hpe.ok (h : Hpe) : Bool := Nat.ble h.nx 1099511627776
def Hpe.nil : Hpe := ⟨0, .lf, []⟩
structure CTx where
  qual : Str
  scope : Scope
  body : FuncBody
  ps : List Str
  fr : List Str
structure GC where
  K : PySem.W.Frag
  dfs : Nat → Option Addr
  tabs : List Addr
  prog : Program
  wo : World
  ltabs : List Addr
  nm : Nat → Nat → Str
  tx : Nat → Option CTx
  cc : Nat → Option Addr
def mapO {α β : Type} (f : α → Option β) : List α → Option (List β)
  | [] => some []
  | x :: r => match f x with
    | none => none
    | some y => match mapO f r with
      | none => none
      | some ys => some (y :: ys)
def nkW : Nat → W → Option NestedKey
  | 0, _ => none
  | k + 1, w => match w with
    | .non => some .none
    | .bl b => some (.num (if b = true then 1 else 0))
    | .int i => some (.num i)
    | .str x => some (.text x)
    | .tup ws => match mapO (nkW k) ws with
      | none => none
      | some ks => some (.tup ks)
    | _ => none
mutual
inductive RW (G : GC) (m : Nat → Addr) (n : Nat) (H : Hp) : W → V → Prop
  | non : RW G m n H .non .non
  | bl (b : Bool) : RW G m n H (.bl b) (.bl b)
  | int (i : Int) : RW G m n H (.int i) (.int i)
  | str (x : Str) : RW G m n H (.str x) (.str x)
  | tup {a : Addr} {xs : List V} {ws : List W} : SqT G.K H a xs → RWs G m n H ws xs → RW G m n H (.tup ws) (.ref a)
  | ref (i : Nat) : i < n → RW G m n H (.ref i) (.ref (m i))
  | df {i : Nat} {f : Addr} : G.dfs i = some f → RW G m n H (.df i) (.ref f)
inductive RWs (G : GC) (m : Nat → Addr) (n : Nat) (H : Hp) : List W → List V → Prop
  | nil : RWs G m n H [] []
  | cons {w : W} {ws : List W} {v : V} {vs : List V} : RW G m n H w v → RWs G m n H ws vs → RWs G m n H (w :: ws) (v :: vs)
end
def erO (a C : Addr) (d : Option Addr) : HO := .ext fun h => ∃ oe : Obj, h.get? a = some oe ∧ oe.cls = .ref C ∧ oe.dict = d ∧ ∃ vs, oe.data = .fields vs
def dO (a : Addr) : HO := .ext fun h => ∃ o : Obj, h.get? a = some o
inductive RO (G : GC) (m : Nat → Addr) (n : Nat) (H : Hp) : Addr → Ob → HO → Prop
  | lst {a : Addr} {ws : List W} {xs : List V} : RWs G m n H ws xs → RO G m n H a (.lst ws) (.lst xs)
  | fz {a : Addr} {o : Obj} {ws : List W} {xs : List V} : RWs G m n H ws xs → RO G m n H a (.fz ws) (.frz o (.lst xs))
  | dk {a : Addr} {kvs : List (Key × W)} {kus : List (Key × V)} : kvs.map (·.1) = kus.map (·.1) → RWs G m n H (kvs.map (·.2)) (kus.map (·.2)) → RO G m n H a (.dk kvs) (.dK kus)
  | dn {a : Addr} {kvs : List (W × W)} {xs : Dn} : kvs.map (fun p => nkW 9 p.1) = xs.map (fun x => some x.1) → (∀ x ∈ xs, x.1.depth ≤ 8) → RWs G m n H (kvs.map (·.1)) (xs.map fun x => V.ref x.2.1) → RWs G m n H (kvs.map (·.2)) (xs.map (·.2.2)) → RO G m n H a (.dn kvs) (dnO G.prog G.wo a xs)
  | st {a : Addr} {ws : List W} {l : Mem} : ws.map (nkW 9) = l.map (fun x => some x.1) → (∀ x ∈ l, x.1.depth ≤ 8) → RWs G m n H ws (l.map fun x => V.ref x.2) → RO G m n H a (.st ws) (snO G.wo a l)
  | si {a : Addr} {is : List Int} : is.Nodup → RO G m n H a (.si is) (SetO G.wo a (fun k => is.contains k) is.length)
  | ob {a C dx : Addr} {c : Nat} {fs : List (Str × W)} {gs : List (Str × V)} : G.cc c = some C → fs.map (·.1) = gs.map (·.1) → RWs G m n H (fs.map (·.2)) (gs.map (·.2)) → RO G m n H a (.ob c fs) (.ins C dx gs)
  | fd {a : Addr} {o : Obj} {kvs : List (Key × W)} {kus : List (Key × V)} : kvs.map (·.1) = kus.map (·.1) → RWs G m n H (kvs.map (·.2)) (kus.map (·.2)) → RO G m n H a (.fd kvs) (.frz o (.dK kus))
  | fn {a : Addr} {o : Obj} {kvs : List (W × W)} {xs : Dn} : kvs.map (fun p => nkW 9 p.1) = xs.map (fun x => some x.1) → (∀ x ∈ xs, x.1.depth ≤ 8) → RWs G m n H (kvs.map (·.1)) (xs.map fun x => V.ref x.2.1) → RWs G m n H (kvs.map (·.2)) (xs.map (·.2.2)) → RO G m n H a (.fn kvs) (.frz o (dnO G.prog G.wo a xs))
  | pt {a : Addr} {o : Obj} {ws : List W} {xs : List V} : RWs G m n H ws xs → o.dict = none → RO G m n H a (.pt ws) (.frz o (.tup xs))
  | er0 {a C : Addr} {c : Nat} : G.cc c = some C → RO G m n H a (.er c none) (erO a C none)
  | er1 {a C : Addr} {c j : Nat} : G.cc c = some C → j < n → RO G m n H a (.er c (some j)) (erO a C (some (m j)))
  | xo {a : Addr} : RO G m n H a .xo (dO a)
def TabOk (H : Hp) (P : Addr) : Prop := ∃ ps : Array Value, H P = some (.tbl ps) ∧ TriplesOk ps.toList
def TabL (G : GC) (m : Nat → Addr) (n : Nat) (H : Hp) (P : Addr) : Prop := ∃ ps : Array Value, H P = some (.tbl ps) ∧ TriplesOk ps.toList ∧ ∀ (pos : Pos) (cv : Value), codeAmong pos ps.toList = some cv → ∃ c, cv = .ref c ∧ H c = some (LamX.CodeO c (G.nm pos.line pos.col)) ∧ ∀ i, i < n → m i ≠ c
theorem TabL.keep {G : GC} {m m' : Nat → Addr} {n n' : Nat} {H H' : Hp} {P : Addr} (t : TabL G m n H P) (kt : ∀ ps, H P = some (.tbl ps) → H' P = some (.tbl ps)) (kc : ∀ b q, H b = some (LamX.CodeO b q) → (∀ i, i < n → m i ≠ b) → H' b = some (LamX.CodeO b q) ∧ ∀ i, i < n' → m' i ≠ b) : TabL G m' n' H' P := by
  obtain ⟨ps, e, tr, h⟩ := t
  refine ⟨ps, kt _ e, tr, fun pos cv hc => ?_⟩
  obtain ⟨c, e1, e2, e3⟩ := h pos cv hc
  obtain ⟨a, b⟩ := kc c _ e2 e3
  exact ⟨c, e1, a, b⟩
structure RH (G : GC) (m : Nat → Addr) (h : Hpe) (H : Hp) : Prop where
  sz : h.nx ≤ 1099511627776
  inj : ∀ i j, i < h.nx → j < h.nx → m i = m j → i = j
  obj : ∀ i, i < h.nx → ∃ o ho, h.get i = some o ∧ H (m i) = some ho ∧ RO G m h.nx H (m i) o ho
  tab : ∀ P ∈ G.tabs, TabOk H P
  ltab : ∀ P ∈ G.ltabs, TabL G m h.nx H P
structure Mv (m : Nat → Addr) (n : Nat) (H : Hp) (m' : Nat → Addr) (n' : Nat) (H' : Hp) : Prop where
  le : n ≤ n'
  old : ∀ i, i < n → m' i = m i
  new : ∀ i, n ≤ i → i < n' → H (m' i) = none
  kp : ∀ b o, H b = some o → (∀ i, i < n → m i ≠ b) → H' b = some o ∨ ∃ ps qs, o = .tbl ps ∧ H' b = some (.tbl qs)
  kf : ∀ i, i < n → ∀ ob u, H (m i) = some (.frz ob u) → H' (m i) = some (.frz ob u)
section
variable {G : GC} {m m' m1 m2 : Nat → Addr} {n n' n1 n2 : Nat} {H H' H1 H2 : Hp} {h h' h1 h2 : Hpe}
theorem Mv.refl : Mv m n H m n H := ⟨Nat.le_refl _, fun _ _ => rfl, fun i a b => absurd a (by omega), fun b o e _ => .inl e, fun _ _ _ _ e => e⟩
theorem RO.notup {a : Addr} {o : Ob} {ho : HO} (r : RO G m n H a o ho) : (∀ xs, ho ≠ .tup xs) ∧ (∀ ob xs, ho = .frz ob (.tup xs) → True) ∧ ∀ ps, ho ≠ .tbl ps := by
  cases r with
  | dn _ _ _ _ => exact ⟨fun _ z => (by cases (show HO.ext _ = HO.tup _ from z)), fun _ _ _ => trivial, fun _ z => (by cases (show HO.ext _ = HO.tbl _ from z))⟩
  | st _ _ _ => exact ⟨fun _ z => (by cases (show HO.ext _ = HO.tup _ from z)), fun _ _ _ => trivial, fun _ z => (by cases (show HO.ext _ = HO.tbl _ from z))⟩
  | si _ => exact ⟨fun _ z => (by cases (show HO.ext _ = HO.tup _ from z)), fun _ _ _ => trivial, fun _ z => (by cases (show HO.ext _ = HO.tbl _ from z))⟩
  | fn _ _ _ _ => exact ⟨fun _ z => (nomatch z), fun _ _ _ => trivial, fun _ z => (nomatch z)⟩
  | er0 _ => exact ⟨fun _ z => (by cases (show HO.ext _ = HO.tup _ from z)), fun _ _ _ => trivial, fun _ z => (by cases (show HO.ext _ = HO.tbl _ from z))⟩
  | er1 _ _ => exact ⟨fun _ z => (by cases (show HO.ext _ = HO.tup _ from z)), fun _ _ _ => trivial, fun _ z => (by cases (show HO.ext _ = HO.tbl _ from z))⟩
  | xo => exact ⟨fun _ z => (by cases (show HO.ext _ = HO.tup _ from z)), fun _ _ _ => trivial, fun _ z => (by cases (show HO.ext _ = HO.tbl _ from z))⟩
  | _ => exact ⟨fun _ z => (nomatch z), fun _ _ _ => trivial, fun _ z => (nomatch z)⟩
theorem RH.ne_none (r : RH G m h H) {i : Nat} (hi : i < h.nx) : H (m i) ≠ none := by
  obtain ⟨o, ho, _, e, _⟩ := r.obj i hi
  rw [e]; exact fun z => by cases z
theorem Mv.stay (mv : Mv m n H m' n' H') {b : Addr} {o : HO} (e : H b = some o) (hb : ∀ i, i < n → m i ≠ b) (ht : ∀ ps, o ≠ .tbl ps) : H' b = some o := by
  rcases mv.kp b o e hb with q | ⟨ps, qs, q, _⟩
  · exact q
  · exact absurd q (ht ps)
theorem Mv.trans (a : Mv m n H m1 n1 H1) (r : ∀ i, i < n → H1 (m i) ≠ none) (b : Mv m1 n1 H1 m2 n2 H2) : Mv m n H m2 n2 H2 where
  le := Nat.le_trans a.le b.le
  old := fun i hi => (b.old i (Nat.lt_of_lt_of_le hi a.le)).trans (a.old i hi)
  new := fun i h1 h2 => by
    by_cases c : i < n1
    · rw [b.old i c]; exact a.new i h1 c
    · have q := b.new i (by omega) h2
      cases e : H (m2 i) with
      | none => rfl
      | some o =>
        by_cases own : ∃ j, j < n ∧ m j = m2 i
        · obtain ⟨j, hj, ej⟩ := own
          exact absurd (by rw [ej]; exact q) (r j hj)
        · rcases a.kp _ o e (fun j hj z => own ⟨j, hj, z⟩) with z | ⟨_, _, _, z⟩
          · rw [q] at z; cases z
          · rw [q] at z; cases z
  kp := fun x o e hx => by
    have nx1 : ∀ i, i < n1 → m1 i ≠ x := fun i hi z => by
      by_cases c : i < n
      · exact hx i c (by rw [← a.old i c]; exact z)
      · have q := a.new i (by omega) hi
        rw [z, e] at q; cases q
    rcases a.kp x o e hx with z | ⟨ps, qs, z1, z2⟩
    · exact b.kp x o z nx1
    · rcases b.kp x _ z2 nx1 with z | ⟨_, qs2, _, z⟩
      · exact .inr ⟨ps, qs, z1, z⟩
      · exact .inr ⟨ps, qs2, z1, z⟩
  kf := fun i hi ob u e => by
    have e1 := a.kf i hi ob u e
    rw [← a.old i hi] at e1
    have e2 := b.kf i (Nat.lt_of_lt_of_le hi a.le) ob u e1
    rwa [a.old i hi] at e2
theorem RH.mv_ne (r : RH G m1 h1 H1) (a : Mv m n H m1 h1.nx H1) : ∀ i, i < n → H1 (m i) ≠ none := fun i hi => by
  rw [← a.old i hi]; exact r.ne_none (Nat.lt_of_lt_of_le hi a.le)
def TupK (H H' : Hp) : Prop := ∀ a xs, Rd H a (.tup xs) → Rd H' a (.tup xs)
theorem Mv.tupk (r : RH G m h H) (mv : Mv m h.nx H m' n' H') : TupK H H' := fun a xs q => by
  rcases q with q | ⟨o, q⟩
  · refine .inl (mv.stay q (fun i hi z => ?_) (fun _ z => by cases z))
    obtain ⟨o, ho, _, e, ro⟩ := r.obj i hi
    rw [z, q] at e; cases e
    exact ro.notup.1 _ rfl
  · refine .inr ⟨o, ?_⟩
    by_cases own : ∃ i, i < h.nx ∧ m i = a
    · obtain ⟨i, hi, rfl⟩ := own
      exact mv.kf i hi _ _ q
    · exact mv.stay q (fun i hi z => own ⟨i, hi, z⟩) (fun _ z => by cases z)
theorem TupK.seq {K : PySem.W.Frag} (t : TupK H H') {a : Addr} {xs : List V} (q : SqT K H a xs) : SqT K H' a xs := q.imp (t a xs) id
theorem TupK.refl : TupK H H := fun _ _ q => q
theorem RW.mono {w : W} {v : V} (r : RW G m n H w v) (o : ∀ i, i < n → m' i = m i) (l : n ≤ n') (t : TupK H H') : RW G m' n' H' w v :=
  RW.rec (motive_1 := fun w v _ => RW G m' n' H' w v) (motive_2 := fun ws vs _ => RWs G m' n' H' ws vs) .non (fun b => .bl b) (fun i => .int i) (fun x => .str x) (fun a _ ih => .tup (t.seq a) ih)
    (fun i hi => by rw [← o i hi]; exact .ref i (Nat.lt_of_lt_of_le hi l)) (fun e => .df e) .nil (fun _ _ a b => .cons a b) r
theorem RWs.mono : ∀ {ws : List W} {vs : List V}, RWs G m n H ws vs → (∀ i, i < n → m' i = m i) → n ≤ n' → TupK H H' → RWs G m' n' H' ws vs
  | _, _, .nil, _, _, _ => .nil
  | _, _, .cons a b, o, l, t => .cons (a.mono o l t) (b.mono o l t)
theorem RO.mono {a : Addr} {o : Ob} {ho : HO} (r : RO G m n H a o ho) (q : ∀ i, i < n → m' i = m i) (l : n ≤ n') (t : TupK H H') : RO G m' n' H' a o ho := by
  cases r with
  | lst a => exact .lst (a.mono q l t)
  | fz a => exact .fz (a.mono q l t)
  | dk a b => exact .dk a (b.mono q l t)
  | dn a b c d => exact .dn a b (c.mono q l t) (d.mono q l t)
  | st a b c => exact .st a b (c.mono q l t)
  | si a => exact .si a
  | ob a b c => exact .ob a b (c.mono q l t)
  | fd a b => exact .fd a (b.mono q l t)
  | fn a b c d => exact .fn a b (c.mono q l t) (d.mono q l t)
  | pt a b => exact .pt (a.mono q l t) b
  | er0 a => exact .er0 a
  | er1 a b => rw [← q _ b]; exact .er1 a (Nat.lt_of_lt_of_le b l)
  | xo => exact .xo
theorem RO.any {a b : Addr} {o : Ob} {ho : HO} (r : RO G m n H a o ho) (hd : o.plain = true) : RO G m n H b o ho := by
  cases r with
  | lst a => exact .lst a
  | fz a => exact .fz a
  | dk a b => exact .dk a b
  | dn _ _ _ _ => cases hd
  | st _ _ _ => cases hd
  | si _ => cases hd
  | ob a b c => exact .ob a b c
  | fd _ _ => cases hd
  | fn _ _ _ _ => cases hd
  | pt _ _ => cases hd
  | er0 _ => cases hd
  | er1 _ _ => cases hd
  | xo => cases hd
theorem RWs.len : ∀ {ws : List W} {vs : List V}, RWs G m n H ws vs → ws.length = vs.length
  | _, _, .nil => rfl
  | _, _, .cons _ b => congrArg (· + 1) b.len
theorem RWs.app : ∀ {ws : List W} {vs : List V} {ws' : List W} {vs' : List V}, RWs G m n H ws vs → RWs G m n H ws' vs' → RWs G m n H (ws ++ ws') (vs ++ vs')
  | _, _, _, _, .nil, h => h
  | _, _, _, _, .cons a b, h => .cons a (b.app h)
theorem RWs.take : ∀ {ws : List W} {vs : List V} (k : Nat), RWs G m n H ws vs → RWs G m n H (ws.take k) (vs.take k)
  | _, _, 0, _ => by simpa using .nil
  | _, _, _ + 1, .nil => by simpa using .nil
  | _, _, k + 1, .cons a b => .cons a (b.take k)
theorem RWs.drop : ∀ {ws : List W} {vs : List V} (k : Nat), RWs G m n H ws vs → RWs G m n H (ws.drop k) (vs.drop k)
  | _, _, 0, r => r
  | _, _, _ + 1, .nil => by simpa using .nil
  | _, _, k + 1, .cons a b => b.drop k
theorem RWs.get : ∀ {ws : List W} {vs : List V} {i : Nat} {w : W}, RWs G m n H ws vs → ws[i]? = some w → ∃ v, vs[i]? = some v ∧ RW G m n H w v
  | _, _, _, _, .nil, e => by simp at e
  | _, _, 0, _, .cons a b, e => by simp at e; subst e; exact ⟨_, rfl, a⟩
  | _, _, i + 1, _, .cons a b, e => by
    obtain ⟨v, h1, h2⟩ := b.get (i := i) (by simpa using e)
    exact ⟨v, by simpa using h1, h2⟩
theorem RWs.set {w : W} {v : V} (q : RW G m n H w v) : ∀ {ws : List W} {vs : List V} (i : Nat), RWs G m n H ws vs → RWs G m n H (ws.set i w) (vs.set i v)
  | _, _, _, .nil => .nil
  | _, _, 0, .cons a b => .cons q b
  | _, _, i + 1, .cons a b => .cons a (b.set q i)
theorem RWs.rep {ws : List W} {vs : List V} (r : RWs G m n H ws vs) : ∀ k : Nat, RWs G m n H (List.replicate k ws).flatten (List.replicate k vs).flatten
  | 0 => .nil
  | k + 1 => by
    rw [List.replicate_succ, List.replicate_succ, List.flatten_cons, List.flatten_cons]
    exact r.app (r.rep k)
theorem RWs.rev {ws : List W} {vs : List V} (r : RWs G m n H ws vs) : RWs G m n H ws.reverse vs.reverse := by
  induction ws generalizing vs with
  | nil => cases r; exact .nil
  | cons w ws ih =>
    cases r with
    | cons a b =>
      rw [List.reverse_cons, List.reverse_cons]
      exact (ih b).app (.cons a .nil)
theorem RH.alloc (r : RH G m h H) (hk : h.ok = true) (hk' : h.nx < 1099511627776) {o : Ob} {ho : HO} {p : Addr} (ro : RO G m h.nx H p o ho) (hp : H p = none) :
    ∃ m', RH G m' (h.new o) (upd H p ho) ∧ Mv m h.nx H m' (h.new o).nx (upd H p ho) ∧ m' h.nx = p := by
  refine ⟨fun i => if i = h.nx then p else m i, ?_, ?_, if_pos rfl⟩
  · have old : ∀ i, i < h.nx → (fun i => if i = h.nx then p else m i) i = m i := fun i hi => if_neg (Nat.ne_of_lt hi)
    have tk : TupK H (upd H p ho) := fun a xs q => by
      rcases q with q | ⟨ob, q⟩
      · exact .inl (by rw [upd_ne (fun z : a = p => by rw [z, hp] at q; cases q)]; exact q)
      · exact .inr ⟨ob, by rw [upd_ne (fun z : a = p => by rw [z, hp] at q; cases q)]; exact q⟩
    refine ⟨hk', fun i j hi hj e => ?_, fun i hi => ?_, fun P hP => ?_, fun P hP => ?_⟩
    · have hi' : i < h.nx + 1 := hi
      have hj' : j < h.nx + 1 := hj
      by_cases c : i = h.nx
      · by_cases d : j = h.nx
        · omega
        · have e' : p = m j := by simpa [c, d] using e
          exact absurd hp (by rw [e']; exact r.ne_none (by omega))
      · by_cases d : j = h.nx
        · have e' : m i = p := by simpa [c, d] using e
          exact absurd hp (by rw [← e']; exact r.ne_none (by omega))
        · exact r.inj i j (by omega) (by omega) (by simpa [c, d] using e)
    · have hi' : i < h.nx + 1 := hi
      by_cases c : i = h.nx
      · subst c
        refine ⟨o, ho, put_same 41 h.t h.nx o (by omega), ?_, ?_⟩
        · simp only [if_true]
          exact upd_same
        · show RO G _ _ _ (if h.nx = h.nx then p else m h.nx) o ho
          rw [if_pos rfl]
          exact ro.mono old (Nat.le_succ _) tk
      · obtain ⟨o', ho', q1, q2, q3⟩ := r.obj i (by omega)
        refine ⟨o', ho', (put_ne 41 h.t h.nx i o c).trans q1, ?_, ?_⟩
        · simp only [if_neg c]
          rw [upd_ne (fun z : m i = p => by rw [z, hp] at q2; cases q2)]
          exact q2
        · show RO G _ _ _ (if i = h.nx then p else m i) o' ho'
          rw [if_neg c]
          exact q3.mono old (Nat.le_succ _) tk
    · obtain ⟨ps, e, t⟩ := r.tab P hP
      exact ⟨ps, by rw [upd_ne (fun z : P = p => by rw [z, hp] at e; cases e)]; exact e, t⟩
    · refine (r.ltab P hP).keep (fun ps e => by rw [upd_ne (fun z : P = p => by rw [z, hp] at e; cases e)]; exact e) fun b q e nb => ?_
      have ne : b ≠ p := fun z : b = p => by rw [z, hp] at e; cases e
      refine ⟨by rw [upd_ne ne]; exact e, fun i hi => ?_⟩
      have hi' : i < h.nx + 1 := hi
      by_cases c : i = h.nx
      · simp only [c, if_true]; exact ne.symm
      · simp only [if_neg c]; exact nb i (by omega)
  · refine ⟨Nat.le_succ _, fun i hi => if_neg (Nat.ne_of_lt hi), fun i h1 h2 => ?_, fun b ob e _ => .inl ?_, fun i hi ob u e => by rw [upd_ne (fun z : m i = p => by rw [z, hp] at e; cases e)]; exact e⟩
    · have : i = h.nx := by have h2' : i < h.nx + 1 := h2; omega
      rw [if_pos this]; exact hp
    · rw [upd_ne (fun z : b = p => by rw [z, hp] at e; cases e)]; exact e
theorem RH.store (r : RH G m h H) {i : Nat} (hi : i < h.nx) {o : Ob} {ho : HO} (ro : RO G m h.nx H (m i) o ho) (nf : ∀ ob u, H (m i) ≠ some (.frz ob u) := by intro _ _ z; simp_all) : RH G m (h.set i o) (upd H (m i) ho) ∧ Mv m h.nx H m (h.set i o).nx (upd H (m i) ho) := by
  have tk : TupK H (upd H (m i) ho) := fun a xs q => by
    obtain ⟨o0, ho0, _, e0, r0⟩ := r.obj i hi
    rcases q with q | ⟨ob, q⟩
    · exact .inl (by rw [upd_ne (fun z : a = m i => by rw [z, e0] at q; cases q; exact r0.notup.1 _ rfl)]; exact q)
    · exact .inr ⟨ob, by rw [upd_ne (fun z : a = m i => nf _ _ (by rw [← z]; exact q))]; exact q⟩
  refine ⟨⟨r.sz, r.inj, fun j hj => ?_, fun P hP => ?_, fun P hP => ?_⟩, Nat.le_refl _, fun _ _ => rfl, fun j a b => absurd a (Nat.not_le_of_lt b), fun b ob e hb => .inl ?_, fun j hj ob u e => by rw [upd_ne (fun z : m j = m i => nf ob u (by rw [← z]; exact e))]; exact e⟩
  · by_cases c : j = i
    · subst c
      have hsz := r.sz
      exact ⟨o, ho, put_same 41 h.t j o (by omega), upd_same, ro.mono (fun _ _ => rfl) (Nat.le_refl _) tk⟩
    · obtain ⟨o', ho', q1, q2, q3⟩ := r.obj j hj
      refine ⟨o', ho', (put_ne 41 h.t i j o c).trans q1, ?_, q3.mono (fun _ _ => rfl) (Nat.le_refl _) tk⟩
      rw [upd_ne (fun z : m j = m i => c (r.inj j i hj hi z))]; exact q2
  · obtain ⟨ps, e, t⟩ := r.tab P hP
    refine ⟨ps, ?_, t⟩
    rw [upd_ne]; · exact e
    intro z
    obtain ⟨o0, ho0, _, e0, r0⟩ := r.obj i hi
    rw [← z, e] at e0; cases e0
    exact r0.notup.2.2 _ rfl
  · obtain ⟨o0, ho0, _, e0, r0⟩ := r.obj i hi
    refine (r.ltab P hP).keep (fun ps e => ?_) fun b q e nb => ⟨by rw [upd_ne (fun z : b = m i => nb i hi z.symm)]; exact e, nb⟩
    rw [upd_ne]; · exact e
    intro z
    rw [← z, e] at e0; cases e0
    exact r0.notup.2.2 _ rfl
  · rw [upd_ne (fun z : b = m i => hb i hi z.symm)]; exact e
theorem RH.tupNew (r : RH G m h H) {p : Addr} {ho : HO} (hp : H p = none) : RH G m h (upd H p ho) ∧ Mv m h.nx H m h.nx (upd H p ho) := by
  have tk : TupK H (upd H p ho) := fun a xs q => by
    rcases q with q | ⟨ob, q⟩
    · exact .inl (by rw [upd_ne (fun z : a = p => by rw [z, hp] at q; cases q)]; exact q)
    · exact .inr ⟨ob, by rw [upd_ne (fun z : a = p => by rw [z, hp] at q; cases q)]; exact q⟩
  refine ⟨⟨r.sz, r.inj, fun j hj => ?_, fun P hP => ?_, fun P hP => ?_⟩, Nat.le_refl _, fun _ _ => rfl, fun j a b => absurd a (Nat.not_le_of_lt b), fun b ob e _ => .inl ?_, fun j hj ob u e => by rw [upd_ne (fun z : m j = p => by rw [z, hp] at e; cases e)]; exact e⟩
  · obtain ⟨o', ho', q1, q2, q3⟩ := r.obj j hj
    refine ⟨o', ho', q1, ?_, q3.mono (fun _ _ => rfl) (Nat.le_refl _) tk⟩
    rw [upd_ne (fun z : m j = p => by rw [z, hp] at q2; cases q2)]; exact q2
  · obtain ⟨ps, e, t⟩ := r.tab P hP
    exact ⟨ps, by rw [upd_ne (fun z : P = p => by rw [z, hp] at e; cases e)]; exact e, t⟩
  · exact (r.ltab P hP).keep (fun ps e => by rw [upd_ne (fun z : P = p => by rw [z, hp] at e; cases e)]; exact e) fun b q e nb => ⟨by rw [upd_ne (fun z : b = p => by rw [z, hp] at e; cases e)]; exact e, nb⟩
  · rw [upd_ne (fun z : b = p => by rw [z, hp] at e; cases e)]; exact e
end
end EV
namespace EV
open PySem PySem.Spec PyProof.Rows L2
structure Exc where
  cls : Nat
  fs : List (Str × W)
inductive Res (α : Type) where
  | ok (a : α) (h : Hpe)
  | ex (x : Exc) (h : Hpe)
  | no
def Res.bind {α β : Type} : Res α → (α → Hpe → Res β) → Res β
  | .ok a h, k => k a h
  | .ex x h, _ => .ex x h
  | .no, _ => .no
abbrev Rho := List (Option W)
abbrev FE := Rho → Hpe → Res W
abbrev FT := Rho → Hpe → Res Bool
abbrev FA := Rho → Hpe → Res (List W)
abbrev Cls := Nat → Option Value
def ExR (G : GC) (cl : Cls) (m : Nat → Addr) (n : Nat) (H : Hp) (x : Exc) (c : Value) (d : Option Addr) : Prop :=
  cl x.cls = some c ∧ ((x.fs = [] ∧ d = none) ∨ ∃ dx kus, d = some dx ∧ H dx = some (.xd kus) ∧ x.fs.map (·.1) = kus.map (·.1) ∧ RWs G m n H (x.fs.map (·.2)) (kus.map (·.2)))
theorem ExR.mono {G : GC} {cl : Cls} {m m' : Nat → Addr} {n n' : Nat} {H H' : Hp} {x : Exc} {c : Value} {d : Option Addr} (r : ExR G cl m n H x c d) (o : ∀ i, i < n → m' i = m i) (l : n ≤ n') (t : TupK H H')
    (k : ∀ dx kus, H dx = some (.xd kus) → H' dx = some (.xd kus)) : ExR G cl m' n' H' x c d := by
  obtain ⟨a, b⟩ := r
  refine ⟨a, ?_⟩
  rcases b with b | ⟨dx, kus, b1, b2, b3, b4⟩
  · exact .inl b
  · exact .inr ⟨dx, kus, b1, k _ _ b2, b3, b4.mono o l t⟩
abbrev CF := Nat → Addr → List V → Prop
mutual
inductive RC (G : GC) (cf : CF) (m : Nat → Addr) (n : Nat) (H : Hp) : W → V → Prop
  | rw {w : W} {v : V} : RW G m n H w v → RC G cf m n H w v
  | clo {k : Nat} {ws : List W} {f : Addr} {vs : List V} : cf k f vs → RCs G cf m n H ws vs → RC G cf m n H (.clo k ws) (.ref f)
inductive RCs (G : GC) (cf : CF) (m : Nat → Addr) (n : Nat) (H : Hp) : List W → List V → Prop
  | nil : RCs G cf m n H [] []
  | cons {w : W} {ws : List W} {v : V} {vs : List V} : RC G cf m n H w v → RCs G cf m n H ws vs → RCs G cf m n H (w :: ws) (v :: vs)
end
section
variable {G : GC} {cf cf' : CF} {m m' : Nat → Addr} {n n' : Nat} {H H' : Hp}
theorem RC.map {w : W} {v : V} (r : RC G cf m n H w v) (o : ∀ i, i < n → m' i = m i) (l : n ≤ n') (t : TupK H H') (c : ∀ k f vs, cf k f vs → cf' k f vs) : RC G cf' m' n' H' w v :=
  RC.rec (motive_1 := fun w v _ => RC G cf' m' n' H' w v) (motive_2 := fun ws vs _ => RCs G cf' m' n' H' ws vs) (fun a => .rw (a.mono o l t)) (fun a _ ih => .clo (c _ _ _ a) ih) .nil (fun _ _ a b => .cons a b) r
theorem RCs.map : ∀ {ws : List W} {vs : List V}, RCs G cf m n H ws vs → (∀ i, i < n → m' i = m i) → n ≤ n' → TupK H H' → (∀ k f vs, cf k f vs → cf' k f vs) → RCs G cf' m' n' H' ws vs
  | _, _, .nil, _, _, _, _ => .nil
  | _, _, .cons a b, o, l, t, c => .cons (a.map o l t c) (b.map o l t c)
theorem RC.mono {w : W} {v : V} (r : RC G cf m n H w v) (o : ∀ i, i < n → m' i = m i) (l : n ≤ n') (t : TupK H H') : RC G cf m' n' H' w v := r.map o l t fun _ _ _ h => h
theorem RCs.of {ws : List W} {vs : List V} : RWs G m n H ws vs → RCs G cf m n H ws vs
  | .nil => .nil
  | .cons a b => .cons (.rw a) (RCs.of b)
theorem RCs.len : ∀ {ws : List W} {vs : List V}, RCs G cf m n H ws vs → ws.length = vs.length
  | _, _, .nil => rfl
  | _, _, .cons _ b => congrArg (· + 1) b.len
theorem RCs.app : ∀ {ws : List W} {vs : List V} {ws' : List W} {vs' : List V}, RCs G cf m n H ws vs → RCs G cf m n H ws' vs' → RCs G cf m n H (ws ++ ws') (vs ++ vs')
  | _, _, _, _, .nil, h => h
  | _, _, _, _, .cons a b, h => .cons a (b.app h)
theorem RCs.get : ∀ {ws : List W} {vs : List V} {i : Nat} {w : W}, RCs G cf m n H ws vs → ws[i]? = some w → ∃ v, vs[i]? = some v ∧ RC G cf m n H w v
  | _, _, _, _, .nil, e => by simp at e
  | _, _, 0, _, .cons a b, e => by simp at e; subst e; exact ⟨_, rfl, a⟩
  | _, _, i + 1, _, .cons a b, e => by
    obtain ⟨v, h1, h2⟩ := b.get (i := i) (by simpa using e)
    exact ⟨v, by simpa using h1, h2⟩
def noClo : W → Bool
  | .clo _ _ => false
  | _ => true
theorem RC.rw_of {w : W} {v : V} (r : RC G cf m n H w v) (h : noClo w = true) : RW G m n H w v := by
  cases r with
  | rw a => exact a
  | clo _ _ => cases h
end
structure SS (G : GC) (cf : CF) (m : Nat → Addr) (h : Hpe) (ρ : Rho) (σ : L2.St) (H : Hp) : Prop where
  rh : RH G m h H
  len : ρ.length = σ.length
  sl : ∀ (i : Nat) (w : W), ρ[i]? = some (some w) → ∃ v, σ[i]? = some (some v) ∧ RC G cf m h.nx H w v
def Out {α β : Type} (G : GC) (cl : Cls) (R : (Nat → Addr) → Nat → Hp → α → β → Prop) (Wx : Value → Option Addr → Hp → Prop) (m : Nat → Addr) (h : Hpe) (H : Hp) : Res α → (β → Hp → Prop) → Prop
  | .ok a h', Q => ∀ m' H' v, RH G m' h' H' → Mv m h.nx H m' h'.nx H' → R m' h'.nx H' a v → Q v H'
  | .ex x h', _ => ∀ m' H' c d, RH G m' h' H' → Mv m h.nx H m' h'.nx H' → ExR G cl m' h'.nx H' x c d → Wx c d H'
  | .no, _ => False
abbrev RB : (Nat → Addr) → Nat → Hp → Bool → Bool → Prop := fun _ _ _ a b => a = b
section
variable {α β γ δ : Type} {G : GC} {cl : Cls} {R : (Nat → Addr) → Nat → Hp → α → β → Prop} {R' : (Nat → Addr) → Nat → Hp → γ → δ → Prop} {Wx : Value → Option Addr → Hp → Prop} {m m1 : Nat → Addr} {h h1 : Hpe} {H H1 : Hp}
theorem Out.mono {r : Res α} {Q Q' : β → Hp → Prop} (o : Out G cl R Wx m h H r Q) (f : ∀ v H', Q v H' → Q' v H') : Out G cl R Wx m h H r Q' := by
  cases r with
  | ok a h' => exact fun m' H' v a b c => f _ _ (o m' H' v a b c)
  | ex x h' => exact o
  | no => exact o
theorem Out.shift {r : Res α} {Q : β → Hp → Prop} (rh : RH G m h H) (rh1 : RH G m1 h1 H1) (mv : Mv m h.nx H m1 h1.nx H1) (o : Out G cl R Wx m h H r Q) : Out G cl R Wx m1 h1 H1 r Q := by
  cases r with
  | ok a h' => exact fun m' H' v a b c => o m' H' v a (mv.trans (rh1.mv_ne mv) b) c
  | ex x h' => exact fun m' H' c d a b e => o m' H' c d a (mv.trans (rh1.mv_ne mv) b) e
  | no => exact o
theorem Out.bind {r : Res α} {k : α → Hpe → Res γ} {Q : δ → Hp → Prop} (rh : RH G m h H) (o : Out G cl R' Wx m h H (r.bind k) Q) :
    Out G cl R Wx m h H r fun v H1 => ∃ a m1 h1, RH G m1 h1 H1 ∧ Mv m h.nx H m1 h1.nx H1 ∧ R m1 h1.nx H1 a v ∧ Out G cl R' Wx m1 h1 H1 (k a h1) Q := by
  cases r with
  | ok a h' => exact fun m' H' v a' b c => ⟨a, m', h', a', b, c, Out.shift rh a' b o⟩
  | ex x h' => exact o
  | no => exact o
end
section
variable {G : GC} {cf : CF} {m m1 : Nat → Addr} {h h1 : Hpe} {H H1 : Hp} {ρ : Rho} {σ : L2.St}
theorem SS.mv (s : SS G cf m h ρ σ H) (rh : RH G m1 h1 H1) (mv : Mv m h.nx H m1 h1.nx H1) : SS G cf m1 h1 ρ σ H1 :=
  ⟨rh, s.len, fun i w e => let ⟨v, e1, r⟩ := s.sl i w e; ⟨v, e1, r.mono mv.old mv.le (mv.tupk s.rh)⟩⟩
end
def tE (G : GC) (cf : CF) (cl : Cls) (Wx : WX) (f : FE) : TE := fun σ H Q => ∃ m h ρ, SS G cf m h ρ σ H ∧ Out G cl (RW G) (fun c d H' => Wx c d σ H') m h H (f ρ h) Q
def tT (G : GC) (cf : CF) (cl : Cls) (Wx : WX) (f : FT) : TT := fun σ H Q => ∃ m h ρ, SS G cf m h ρ σ H ∧ Out G cl RB (fun c d H' => Wx c d σ H') m h H (f ρ h) Q
def tA (G : GC) (cf : CF) (cl : Cls) (Wx : WX) (f : FA) : TA := fun σ H Q => ∃ m h ρ, SS G cf m h ρ σ H ∧ Out G cl (RWs G) (fun c d H' => Wx c d σ H') m h H (f ρ h) Q
structure Bx where
  G : GC
  cl : Cls
  W : WX
  cf : CF
def SE (X : Cx) (B : Bx) (e : Expr) (f : FE) : Prop := PE X e (tE B.G B.cf B.cl B.W f)
def ST (X : Cx) (B : Bx) (e : Expr) (f : FT) : Prop := PT X e (tT B.G B.cf B.cl B.W f)
def SW (X : Cx) (B : Bx) (e : Expr) (f : FT) : Prop := PW X e (tT B.G B.cf B.cl B.W f)
def SA (X : Cx) (B : Bx) (es : List Expr) (f : FA) : Prop := PA X es (tA B.G B.cf B.cl B.W f)
theorem pe_imp {X : Cx} {e : Expr} {t t' : TE} (h : PE X e t) (i : ∀ σ H Q, t' σ H Q → t σ H Q) : PE X e t' := ⟨fun pins s σ H Q I q => h.run pins s σ H Q I (i σ H Q q)⟩
theorem pt_imp {X : Cx} {e : Expr} {t t' : TT} (h : PT X e t) (i : ∀ σ H Q, t' σ H Q → t σ H Q) : PT X e t' := ⟨fun pins s σ H Q I q => h.run pins s σ H Q I (i σ H Q q)⟩
theorem pw_imp {X : Cx} {e : Expr} {t t' : TT} (h : PW X e t) (i : ∀ σ H Q, t' σ H Q → t σ H Q) : PW X e t' := ⟨fun wh pins s σ H Q I q => h.run wh pins s σ H Q I (i σ H Q q)⟩
theorem pa_imp {X : Cx} {e : List Expr} {t t' : TA} (h : PA X e t) (i : ∀ σ H Q, t' σ H Q → t σ H Q) : PA X e t' := ⟨fun pos pins s σ H Q I q => h.run pos pins s σ H Q I (i σ H Q q)⟩
section
variable {X : Cx} {B : Bx} {a b c e : Expr} {es : List Expr} {fa fb fc f : FE} {ft : FT} {fs : FA} {pos p : Pos} {j : Nat}
def eV (i : Nat) : FE := fun ρ h => match nthR ρ i with
  | some (some w) => bif noClo w then .ok w h else .no
  | _ => .no
def eK (w : W) : FE := fun _ h => .ok w h
theorem se_v (i : Nat) {x : Str} (hN : X.N[i]? = some x) (hv : Vis X.env.scope x) (hd : (x == ("__debug__" : Str)) = false) (hcd : (x == ("__classdict__" : Str)) = false) : SE X B (.Name x pos) (eV i) :=
  pe_imp (pe_var hN hv hd hcd) fun σ H Q ⟨m, h, ρ, s, o⟩ => by
    simp only [eV, nthR_eq] at o
    split at o
    · rename_i w e
      obtain ⟨v, e1, r⟩ := s.sl i w e
      cases c : noClo w with
      | false => rw [c] at o; exact o.elim
      | true => rw [c] at o; exact ⟨v, e1, o m H v s.rh Mv.refl (r.rw_of c)⟩
    · exact o.elim
theorem se_c {w : W} {v : V} (h : PE X e (L2.tC v)) (r : ∀ m n H, RW B.G m n H w v) : SE X B e (eK w) :=
  pe_imp h fun σ H Q ⟨m, h, ρ, s, o⟩ => o m H v s.rh Mv.refl (r _ _ _)
theorem se_int {i : Int} : SE X B (.Constant (.int i) j pos) (eK (.int i)) := se_c pe_int fun _ _ _ => .int i
theorem se_bl {i : Bool} : SE X B (.Constant (.bool i) j pos) (eK (.bl i)) := se_c pe_bl fun _ _ _ => .bl i
theorem se_non : SE X B (.Constant .none j pos) (eK .non) := se_c pe_non fun _ _ _ => .non
theorem se_str {x : Str} : SE X B (.Constant (.str x) j pos) (eK (.str x)) := se_c pe_str fun _ _ _ => .str x
def aN : FA := fun _ h => .ok [] h
def aC (f : FE) (fs : FA) : FA := fun ρ h => (f ρ h).bind fun w h1 => (fs ρ h1).bind fun ws h2 => .ok (w :: ws) h2
theorem sa_nil : SA X B [] aN := pa_imp pa_nil fun σ H Q ⟨m, h, ρ, s, o⟩ => o m H [] s.rh Mv.refl .nil
theorem sa_cons (ha : SE X B e f) (hr : SA X B es fs) (hs : starEach (e :: es) X.env = (false, eval e X.env) :: starEach es X.env) : SA X B (e :: es) (aC f fs) :=
  pa_imp (pa_cons ha hr hs) fun σ H Q ⟨m, h, ρ, s, o⟩ => ⟨m, h, ρ, s, (Out.bind s.rh o).mono fun v H1 ⟨w, m1, h1, r1, v1, q1, o1⟩ =>
    ⟨m1, h1, ρ, s.mv r1 v1, (Out.bind r1 o1).mono fun vs H2 ⟨ws, m2, h2, r2, v2, q2, o2⟩ => o2 m2 H2 _ r2 Mv.refl (.cons (q1.mono v2.old v2.le (v2.tupk r1)) q2)⟩⟩
def Hpe.al (h : Hpe) (o : Ob) : Res W := bif Nat.blt h.nx 1099511627776 then .ok (.ref h.nx) (h.new o) else .no
def line (n : Nat) : Bool := Nat.ble n 100000
theorem line_le {n : Nat} (h : line n = true) : n ≤ sizeLine := Nat.le_trans (Nat.le_of_ble_eq_true h) (by decide)
theorem al_ok {G : GC} {cl : Cls} {Wx : Value → Option Addr → Hp → Prop} {m : Nat → Addr} {h : Hpe} {H : Hp} {o : Ob} {ho : HO} {Q : VK} (rh : RH G m h H) (out : Out G cl (RW G) Wx m h H (h.al o) Q) (ro : RO G m h.nx H 0 o ho) (hnd : o.plain = true := by rfl) : ∀ p, H p = none → Q (.ref p) (upd H p ho) := by
  intro p hp
  unfold Hpe.al at out
  cases c : Nat.blt h.nx 1099511627776 with
  | false => rw [c] at out; exact out.elim
  | true =>
    rw [c] at out
    have lt : h.nx < 1099511627776 := Nat.le_of_ble_eq_true c
    obtain ⟨m', r', v', rfl⟩ := rh.alloc (by unfold Hpe.ok; exact Nat.ble_eq_true_of_le rh.sz) lt (ro.any hnd) hp
    exact out m' _ _ r' v' (.ref h.nx (Nat.lt_succ_self _))
theorem al_okA {G : GC} {cl : Cls} {Wx : Value → Option Addr → Hp → Prop} {m : Nat → Addr} {h : Hpe} {H : Hp} {o : Ob} {ho : Addr → HO} {Q : VK} (rh : RH G m h H) (out : Out G cl (RW G) Wx m h H (h.al o) Q) (ro : ∀ p, RO G m h.nx H p o (ho p)) : ∀ p, H p = none → Q (.ref p) (upd H p (ho p)) := by
  intro p hp
  unfold Hpe.al at out
  cases c : Nat.blt h.nx 1099511627776 with
  | false => rw [c] at out; exact out.elim
  | true =>
    rw [c] at out
    have lt : h.nx < 1099511627776 := Nat.le_of_ble_eq_true c
    obtain ⟨m', r', v', rfl⟩ := rh.alloc (by unfold Hpe.ok; exact Nat.ble_eq_true_of_le rh.sz) lt (ro p) hp
    exact out m' _ _ r' v' (.ref h.nx (Nat.lt_succ_self _))
def eTup (fs : FA) : FE := fun ρ h => (fs ρ h).bind fun ws h1 => bif line ws.length then .ok (.tup ws) h1 else .no
def eLst (fs : FA) : FE := fun ρ h => (fs ρ h).bind fun ws h1 => bif line ws.length then h1.al (.lst ws) else .no
theorem tup_ok {G : GC} {cl : Cls} {Wx : Value → Option Addr → Hp → Prop} {m : Nat → Addr} {h : Hpe} {H : Hp} {ws : List W} {vs : List V} {Q : VK} (rh : RH G m h H) (out : Out G cl (RW G) Wx m h H (.ok (.tup ws) h) Q) (r : RWs G m h.nx H ws vs) : ∀ p, H p = none → Q (.ref p) (upd H p (.tup vs)) := by
  intro p hp
  obtain ⟨r', v'⟩ := rh.tupNew (ho := .tup vs) hp
  exact out m _ _ r' v' (.tup (SqT.of upd_same) (r.mono (fun _ _ => rfl) (Nat.le_refl _) (v'.tupk rh)))
theorem se_tup {x1} (h : SA X B es fs) : SE X B (.Tuple es x1 pos) (eTup fs) :=
  pe_imp (pe_tup h) fun σ H Q ⟨m, h, ρ, s, o⟩ => ⟨m, h, ρ, s, (Out.bind s.rh o).mono fun vs H1 ⟨ws, m1, h1, r1, v1, q1, o1⟩ => by
    cases c : line ws.length with
    | false => rw [c] at o1; exact o1.elim
    | true => rw [c] at o1; exact ⟨by rw [← q1.len]; exact line_le c, tup_ok r1 o1 q1⟩⟩
theorem se_lst (h : SA X B es fs) : SE X B (.List es pos) (eLst fs) :=
  pe_imp (pe_lst h) fun σ H Q ⟨m, h, ρ, s, o⟩ => ⟨m, h, ρ, s, (Out.bind s.rh o).mono fun vs H1 ⟨ws, m1, h1, r1, v1, q1, o1⟩ => by
    cases c : line ws.length with
    | false => rw [c] at o1; exact o1.elim
    | true => rw [c] at o1; exact ⟨by rw [← q1.len]; exact line_le c, al_ok r1 o1 (.lst q1)⟩⟩
def OpS (G : GC) (r : R2) (g : W → W → Hpe → Res W) : Prop := ∀ (cl : Cls) (Wx : Value → Option Addr → Hp → Prop) (m : Nat → Addr) (h : Hpe) (H : Hp) (a b : W) (x y : V) (Q : VK), RH G m h H → RW G m h.nx H a x → RW G m h.nx H b y →
  Out G cl (RW G) Wx m h H (g a b h) Q → r x y H Q
def e2 (g : W → W → Hpe → Res W) (fa fb : FE) : FE := fun ρ h => (fa ρ h).bind fun a h1 => (fb ρ h1).bind fun b h2 => g a b h2
theorem op2 {r : R2} {g : W → W → Hpe → Res W} (hop : OpS B.G r g) : ∀ σ H Q, tE B.G B.cf B.cl B.W (e2 g fa fb) σ H Q → tOp r (tE B.G B.cf B.cl B.W fa) (tE B.G B.cf B.cl B.W fb) σ H Q :=
  fun σ H Q ⟨m, h, ρ, s, o⟩ => ⟨m, h, ρ, s, (Out.bind s.rh o).mono fun v H1 ⟨w, m1, h1, r1, v1, q1, o1⟩ =>
    ⟨m1, h1, ρ, s.mv r1 v1, (Out.bind r1 o1).mono fun u H2 ⟨w2, m2, h2, r2, v2, q2, o2⟩ => hop B.cl _ m2 h2 H2 w w2 v u Q r2 (q1.mono v2.old v2.le (v2.tupk r1)) q2 o2⟩⟩
theorem se_op {op : Operator} {r : R2} {g : W → W → Hpe → Res W} (ho : OpR X (binaryOp op) r) (h : OpS B.G r g) (ha : SE X B a fa) (hb : SE X B b fb) : SE X B (.BinOp a op b pos) (e2 g fa fb) := pe_imp (pe_op ho ha hb) (op2 h)
theorem se_cmp {op : CmpOp} {r : R2} {g : W → W → Hpe → Res W} (ho : OpR X (compareOp op) r) (h : OpS B.G r g) (ha : SE X B a fa) (hb : SE X B b fb) (hm : behindInMarks op b = false) : SE X B (.Compare a [op] [b] pos) (e2 g fa fb) :=
  pe_imp (pe_cmpR ho ha hb hm) (op2 h)
def asB (f : FE) : FT := fun ρ h => (f ρ h).bind fun w h1 => match w with
  | .bl b => .ok b h1
  | _ => .no
theorem asB_ok {m : Nat → Addr} {n : Nat} {G : GC} {H : Hp} {b : Bool} {v : V} (r : RW G m n H (.bl b) v) : v = .bl b := by cases r; rfl
theorem as_test {t : TE} (i : ∀ σ H Q, tE B.G B.cf B.cl B.W f σ H Q → t σ H Q) : ∀ σ H Q, tT B.G B.cf B.cl B.W (asB f) σ H Q → tTest t σ H Q := fun σ H Q ⟨m, h, ρ, s, o⟩ =>
  i σ H _ ⟨m, h, ρ, s, (Out.bind s.rh o).mono fun v H1 ⟨w, m1, h1, r1, v1, q1, o1⟩ => by
    cases w with
    | bl b => obtain rfl := asB_ok q1; exact ⟨b, rfl, o1 m1 H1 b r1 Mv.refl rfl⟩
    | _ => exact o1.elim⟩
theorem st_cmp {op : CmpOp} {r : R2} {g : W → W → Hpe → Res W} (ho : OpR X (compareOp op) r) (h : OpS B.G r g) (ha : SE X B a fa) (hb : SE X B b fb) (hm : behindInMarks op b = false) : ST X B (.Compare a [op] [b] pos) (asB (e2 g fa fb)) :=
  pt_imp (pt_cmpR ho ha hb hm) (as_test (op2 h))
def truW : W → Hpe → Option Bool
  | .non, _ => some false
  | .bl b, _ => some b
  | .int i, _ => some (i != 0)
  | .tup ws, _ => some (!ws.isEmpty)
  | .ref n, h => match h.get n with
    | some (.lst ws) => some (!ws.isEmpty)
    | some (.fz ws) => some (!ws.isEmpty)
    | some (.dk kvs) => some (!kvs.isEmpty)
    | _ => none
  | _, _ => none
def asT (f : FE) : FT := fun ρ h => (f ρ h).bind fun w h1 => match truW w h1 with
  | some b => .ok b h1
  | none => .no
theorem emp_len {α β : Type} {xs : List α} {ys : List β} (h : xs.length = ys.length) : xs.isEmpty = ys.isEmpty := by
  cases xs <;> cases ys <;> simp at h <;> rfl
theorem RH.lst {G : GC} {m : Nat → Addr} {h : Hpe} {H : Hp} (r : RH G m h H) {i : Nat} {ws : List W} (hi : i < h.nx) (e : h.get i = some (.lst ws)) : ∃ xs, H (m i) = some (.lst xs) ∧ RWs G m h.nx H ws xs := by
  obtain ⟨o, ho, q1, q2, q3⟩ := r.obj i hi
  rw [e] at q1; cases q1
  cases q3 with
  | lst q => exact ⟨_, q2, q⟩
def rdL (h : Hpe) (i : Nat) : Option (List W) := match h.get i with
  | some (.lst ws) => some ws
  | some (.fz ws) => some ws
  | _ => none
theorem RH.rd {G : GC} {m : Nat → Addr} {h : Hpe} {H : Hp} (r : RH G m h H) {i : Nat} {ws : List W} (hi : i < h.nx) (e : rdL h i = some ws) : ∃ xs, SqL G.K H (m i) xs ∧ RWs G m h.nx H ws xs := by
  obtain ⟨o, ho, q1, q2, q3⟩ := r.obj i hi
  unfold rdL at e
  rw [q1] at e
  cases q3 with
  | lst q => cases e; exact ⟨_, .inl (.inl q2), q⟩
  | fz q => cases e; exact ⟨_, .inl (.inr ⟨_, q2⟩), q⟩
  | dk _ _ => cases e
  | dn _ _ _ _ => cases e
  | st _ _ _ => cases e
  | si _ => cases e
  | ob _ _ _ => cases e
  | fd _ _ => cases e
  | fn _ _ _ _ => cases e
  | pt _ _ => cases e
  | er0 _ => cases e
  | er1 _ _ => cases e
  | xo => cases e
theorem tru_ok {G : GC} {m : Nat → Addr} {h : Hpe} {H : Hp} {w : W} {v : V} {b : Bool} (rh : RH G m h H) (r : RW G m h.nx H w v) (e : truW w h = some b) : TruV G.K v H b := by
  cases r with
  | non => cases e; rfl
  | bl c => cases e; rfl
  | int i => cases e; rfl
  | str x => cases e
  | tup s q => cases e; exact .inr (.inl ⟨_, s, by rw [emp_len q.len]⟩)
  | df _ => cases e
  | ref i hi =>
    obtain ⟨o, ho, q1, q2, q3⟩ := rh.obj i hi
    simp only [truW, q1] at e
    cases q3 with
    | lst q => cases e; exact .inl ⟨_, .inl (.inl q2), by rw [emp_len q.len]⟩
    | fz q => cases e; exact .inl ⟨_, .inl (.inr ⟨_, q2⟩), by rw [emp_len q.len]⟩
    | dk q q' => cases e; exact .inr (.inr ⟨_, q2, by rw [emp_len (by simpa using congrArg List.length q)]⟩)
    | dn _ _ _ _ => cases e
    | st _ _ _ => cases e
    | si _ => cases e
    | ob _ _ _ => cases e
    | fd _ _ => cases e
    | fn _ _ _ _ => cases e
    | pt _ _ => cases e
    | er0 _ => cases e
    | er1 _ _ => cases e
    | xo => cases e
theorem st_tru (hK : X.K = B.G.K) (h : SE X B e f) (ht : ∀ whole : Sem Value, isTrue e X.env whole = (do let v ← whole; standAt e.pos; holding [v] (truthy v))) : ST X B e (asT f) :=
  pt_imp (pt_truth h ht) fun σ H Q ⟨m, h, ρ, s, o⟩ => ⟨m, h, ρ, s, (Out.bind s.rh o).mono fun v H1 ⟨w, m1, h1, r1, v1, q1, o1⟩ => by
    cases c : truW w h1 with
    | none => rw [c] at o1; exact o1.elim
    | some b => rw [c] at o1; exact ⟨b, by rw [hK]; exact tru_ok r1 q1 c, o1 m1 H1 b r1 Mv.refl rfl⟩⟩
def tNt (f : FT) : FT := fun ρ h => (f ρ h).bind fun b h1 => .ok (!b) h1
theorem st_not (h : ST X B a ft) : ST X B (.UnaryOp .Not a pos) (tNt ft) :=
  pt_imp (pt_not h) fun σ H Q ⟨m, h, ρ, s, o⟩ => ⟨m, h, ρ, s, (Out.bind s.rh o).mono fun v H1 ⟨w, m1, h1, r1, v1, q1, o1⟩ => by subst q1; exact o1 m1 H1 _ r1 Mv.refl rfl⟩
def tAn (f g : FT) : FT := fun ρ h => (f ρ h).bind fun b h1 => bif b then g ρ h1 else .ok false h1
def tOr' (f g : FT) : FT := fun ρ h => (f ρ h).bind fun b h1 => bif b then .ok true h1 else g ρ h1
variable {f1 f2 : FT} {rest : List Expr}
theorem sw_and1 (h : ST X B a f1) : SW X B (.BoolOp .And [a] pos) f1 := pw_and1 h
theorem sw_or1 (h : ST X B a f1) : SW X B (.BoolOp .Or [a] pos) f1 := pw_or1 h
theorem sw_and (h : ST X B a f1) (h' : SW X B (.BoolOp .And (b :: rest) pos) f2) : SW X B (.BoolOp .And (a :: b :: rest) pos) (tAn f1 f2) :=
  pw_imp (pw_and h h') fun σ H Q ⟨m, h, ρ, s, o⟩ => ⟨m, h, ρ, s, (Out.bind s.rh o).mono fun v H1 ⟨w, m1, h1, r1, v1, q1, o1⟩ => by
    subst q1
    cases w with
    | true => rw [if_pos rfl]; exact ⟨m1, h1, ρ, s.mv r1 v1, o1⟩
    | false => rw [if_neg (by decide)]; exact o1 m1 H1 _ r1 Mv.refl rfl⟩
theorem sw_or (h : ST X B a f1) (h' : SW X B (.BoolOp .Or (b :: rest) pos) f2) : SW X B (.BoolOp .Or (a :: b :: rest) pos) (tOr' f1 f2) :=
  pw_imp (pw_or h h') fun σ H Q ⟨m, h, ρ, s, o⟩ => ⟨m, h, ρ, s, (Out.bind s.rh o).mono fun v H1 ⟨w, m1, h1, r1, v1, q1, o1⟩ => by
    subst q1
    cases w with
    | true => rw [if_pos rfl]; exact o1 m1 H1 _ r1 Mv.refl rfl
    | false => rw [if_neg (by decide)]; exact ⟨m1, h1, ρ, s.mv r1 v1, o1⟩⟩
theorem SW.st (h : SW X B e ft) : ST X B e ft := PW.pt h
def eIf (t : FT) (fa fb : FE) : FE := fun ρ h => (t ρ h).bind fun b h1 => bif b then fa ρ h1 else fb ρ h1
theorem se_if (hc : ST X B c ft) (ha : SE X B a fa) (hb : SE X B b fb) : SE X B (.IfExp c a b pos) (eIf ft fa fb) :=
  pe_imp (pe_ifExp hc ha hb) fun σ H Q ⟨m, h, ρ, s, o⟩ => ⟨m, h, ρ, s, (Out.bind s.rh o).mono fun v H1 ⟨w, m1, h1, r1, v1, q1, o1⟩ => by
    subst q1
    cases w with
    | true => rw [if_pos rfl]; exact ⟨m1, h1, ρ, s.mv r1 v1, o1⟩
    | false => rw [if_neg (by decide)]; exact ⟨m1, h1, ρ, s.mv r1 v1, o1⟩⟩
def eAn (fa fb : FE) : FE := fun ρ h => (fa ρ h).bind fun w h1 => match w with
  | .bl true => fb ρ h1
  | .bl false => .ok (.bl false) h1
  | _ => .no
theorem se_one {op} (h : SE X B a fa) : SE X B (.BoolOp op [a] pos) fa := pe_one h
theorem se_and (ha : SE X B a fa) (hb : SE X B (.BoolOp .And (b :: rest) pos) fb) : SE X B (.BoolOp .And (a :: b :: rest) pos) (eAn fa fb) :=
  pe_imp (pe_and ha hb) fun σ H Q ⟨m, h, ρ, s, o⟩ => ⟨m, h, ρ, s, (Out.bind s.rh o).mono fun v H1 ⟨w, m1, h1, r1, v1, q1, o1⟩ => by
    cases w with
    | bl d =>
      obtain rfl := asB_ok q1
      cases d with
      | true => exact ⟨true, rfl, by rw [if_pos rfl]; exact ⟨m1, h1, ρ, s.mv r1 v1, o1⟩⟩
      | false => exact ⟨false, rfl, by rw [if_neg (by decide)]; exact o1 m1 H1 _ r1 Mv.refl (.bl _)⟩
    | _ => exact o1.elim⟩
end
end EV
namespace DL
open PySem PySem.Spec PyProof.Rows L2
def hide (H : Hp) (l : List Addr) : Hp := fun a => if a ∈ l then none else H a
theorem hide_in {H : Hp} {l : List Addr} {a : Addr} (h : a ∈ l) : hide H l a = none := if_pos h
theorem hide_out {H : Hp} {l : List Addr} {a : Addr} (h : a ∉ l) : hide H l a = H a := if_neg h
theorem hide_some {H : Hp} {l : List Addr} {a : Addr} {o : HO} (h : hide H l a = some o) : a ∉ l ∧ H a = some o := by
  by_cases c : a ∈ l
  · rw [hide_in c] at h; cases h
  · rw [hide_out c] at h; exact ⟨c, h⟩
theorem hide_same (H : Hp) (l : List Addr) : Same (hide H l) H := fun b o h => (hide_some h).2
theorem hide_mono {H H' : Hp} {l : List Addr} (e : Same H H') : Same (hide H l) (hide H' l) := fun b o h => by
  obtain ⟨c, h⟩ := hide_some h
  rw [hide_out c]; exact e _ _ h
theorem same_new {H : Hp} {p : Addr} (h : H p = none) (o : HO) : Same H (upd H p o) := fun b u q => by rw [upd_ne (ne_of_none q h)]; exact q
theorem seqT {K : PySem.W.Frag} {H H' : Hp} {a : Addr} {xs : List V} (e : Same H H') (h : SqT K H a xs) : SqT K H' a xs := by
  rcases h with (h | ⟨o, h⟩) | h
  · exact .inl (.inl (e _ _ h))
  · exact .inl (.inr ⟨o, e _ _ h⟩)
  · exact .inr h
def keyD : Key → PyData
  | .inl i => .int i
  | .inr x => .str x
def dkD (kvs : List (Key × PyData)) : PyData := .dict (kvs.map fun p => (keyD p.1, p.2))
def dtD (kvs : List (List Key × PyData)) : PyData := .dict (kvs.map fun p => (.tuple (p.1.map keyD), p.2))
mutual
inductive Dq (K : PySem.W.Frag) (H : Hp) : V → PyData → Prop
  | non : Dq K H .non .none
  | bl (b : Bool) : Dq K H (.bl b) (.bool b)
  | int (i : Int) : Dq K H (.int i) (.int i)
  | str (x : Str) : Dq K H (.str x) (.str x)
  | lst {a : Addr} {xs : List V} {ds : List PyData} : SqL K H a xs → DqAll K H xs ds → Dq K H (.ref a) (.list ds)
  | tup {a : Addr} {xs : List V} {ds : List PyData} : SqT K H a xs → DqAll K H xs ds → Dq K H (.ref a) (.tuple ds)
  | dk {a : Addr} {kvs : List (Key × V)} {dvs : List (Key × PyData)} {ps : List (PyData × PyData)} {xs : List V} {ds : List PyData} : H a = some (.dK kvs) → kvs.map (·.1) = dvs.map (·.1) → kvs.map (·.2) = xs → dvs.map (·.2) = ds → DqAll K H xs ds → .dict ps = dkD dvs → Dq K H (.ref a) (.dict ps)
  | dt {a : Addr} {kvs : List (List Key × V)} {dvs : List (List Key × PyData)} {ps : List (PyData × PyData)} {xs : List V} {ds : List PyData} : H a = some (.dT kvs) → kvs.map (·.1) = dvs.map (·.1) → kvs.map (·.2) = xs → dvs.map (·.2) = ds → DqAll K H xs ds → dvs ≠ [] → .dict ps = dtD dvs → Dq K H (.ref a) (.dict ps)
inductive DqAll (K : PySem.W.Frag) (H : Hp) : List V → List PyData → Prop
  | nil : DqAll K H [] []
  | cons {v : V} {vs : List V} {d : PyData} {ds : List PyData} : Dq K H v d → DqAll K H vs ds → DqAll K H (v :: vs) (d :: ds)
end
theorem dp_mono {K : PySem.W.Frag} {H H' : Hp} (e : Same H H') {v : V} {d : PyData} (h : Dq K H v d) : Dq K H' v d :=
  Dq.rec (motive_1 := fun v d _ => Dq K H' v d) (motive_2 := fun vs ds _ => DqAll K H' vs ds) .non (fun b => .bl b) (fun i => .int i) (fun x => .str x) (fun a _ ih => .lst (e.seq a) ih) (fun a _ ih => .tup (seqT e a) ih)
    (fun a p q r _ s ih => .dk (e _ _ a) p q r ih s) (fun a p q r _ n s ih => .dt (e _ _ a) p q r ih n s) .nil (fun _ _ h t => .cons h t) h
theorem dps_mono {K : PySem.W.Frag} {H H' : Hp} (e : Same H H') : ∀ {v : List V} {d : List PyData}, DqAll K H v d → DqAll K H' v d
  | _, _, .nil => .nil
  | _, _, .cons a b => .cons (dp_mono e a) (dps_mono e b)
theorem dps_len {K : PySem.W.Frag} {H : Hp} : ∀ {vs : List V} {ds : List PyData}, DqAll K H vs ds → vs.length = ds.length
  | _, _, .nil => rfl
  | _, _, .cons _ t => congrArg (· + 1) (dps_len t)
theorem dps_get' {K : PySem.W.Frag} {H : Hp} : ∀ {vs : List V} {ds : List PyData} {i : Nat} {v : V}, DqAll K H vs ds → vs[i]? = some v → ∃ d, ds[i]? = some d ∧ Dq K H v d
  | _, _, _, _, .nil, e => by simp at e
  | _, _, 0, _, .cons a t, e => by simp at e; subst e; exact ⟨_, rfl, a⟩
  | _, _, i + 1, _, .cons a t, e => by
    obtain ⟨v, h1, h2⟩ := dps_get' (i := i) t (by simpa using e)
    exact ⟨v, by simpa using h1, h2⟩
inductive OD where
  | lst (ds : List PyData)
  | dk (kvs : List (Key × PyData))
  | dt (kvs : List (List Key × PyData))
def odD : OD → PyData
  | .lst ds => .list ds
  | .dk kvs => dkD kvs
  | .dt kvs => dtD kvs
inductive OQ (K : PySem.W.Frag) (G : Hp) : HO → OD → Prop
  | lst {xs : List V} {ds : List PyData} : DqAll K G xs ds → OQ K G (.lst xs) (.lst ds)
  | dk {kvs : List (Key × V)} {dvs : List (Key × PyData)} : kvs.map (·.1) = dvs.map (·.1) → DqAll K G (kvs.map (·.2)) (dvs.map (·.2)) → OQ K G (.dK kvs) (.dk dvs)
  | dt {kvs : List (List Key × V)} {dvs : List (List Key × PyData)} : kvs.map (·.1) = dvs.map (·.1) → DqAll K G (kvs.map (·.2)) (dvs.map (·.2)) → OQ K G (.dT kvs) (.dt dvs)
theorem OQ.mono {K : PySem.W.Frag} {G G' : Hp} (e : Same G G') {ho : HO} {o : OD} (h : OQ K G ho o) : OQ K G' ho o := by
  cases h with
  | lst a => exact .lst (dps_mono e a)
  | dk a b => exact .dk a (dps_mono e b)
  | dt a b => exact .dt a (dps_mono e b)
def okO : OD → Prop
  | .dt kvs => kvs ≠ []
  | _ => True
theorem OQ.dq {K : PySem.W.Frag} {G : Hp} {ho : HO} {o : OD} {a : Addr} (h : OQ K G ho o) (e : G a = some ho) (n : okO o) : Dq K G (.ref a) (odD o) := by
  cases h with
  | lst q => exact .lst (SqL.of e) q
  | dk p q => exact .dk e p rfl rfl q rfl
  | dt p q => exact .dt e p rfl rfl q n rfl
inductive Slot where
  | un
  | d (d : PyData)
  | obj (o : OD)
  | urn (n : Nat)
abbrev Slot.own (ds : List PyData) : Slot := .obj (.lst ds)
abbrev Env := List Slot
def UrnAt (H : Hp) (u : Addr) (n : Nat) : Prop := ∃ (b s : Int) (k : Nat), H u = some (.lst [.int b, .int s, .int (k : Int)]) ∧ 0 ≤ b ∧ 0 ≤ s ∧ s < 2 ^ 62 ∧ k ≤ n
inductive RepS (K : PySem.W.Frag) (G H : Hp) (U : List Addr) : List (Option V) → Env → List Addr → Prop
  | nil : RepS K G H U [] [] []
  | un {x σ ρ as} : RepS K G H U σ ρ as → RepS K G H U (x :: σ) (.un :: ρ) as
  | d {v d σ ρ as} : Dq K G v d → RepS K G H U σ ρ as → RepS K G H U (some v :: σ) (.d d :: ρ) as
  | obj {a ho o σ ρ as} : H a = some ho → OQ K G ho o → a ∉ as → RepS K G H U σ ρ as → RepS K G H U (some (.ref a) :: σ) (.obj o :: ρ) (a :: as)
  | urn {a n σ ρ as} : UrnAt H a n → a ∈ U → RepS K G H U σ ρ as → RepS K G H U (some (.ref a) :: σ) (.urn n :: ρ) as
structure Fx where
  N : List Addr
  He : Hp
  U : List Addr
def SameBut (U : List Addr) (H H' : Hp) : Prop := ∀ b o, b ∉ U → H b = some o → H' b = some o
theorem SameBut.trans {U : List Addr} {H H1 H2 : Hp} (a : SameBut U H H1) (b : SameBut U H1 H2) : SameBut U H H2 := fun c o z h => b c o z (a c o z h)
structure Rep (K : PySem.W.Frag) (C : Fx) (as : List Addr) (H : Hp) (σ : List (Option V)) (ρ : Env) : Prop where
  rep : RepS K (hide H (as ++ C.N)) H C.U σ ρ as
  ent : SameBut C.U C.He H
  own : ∀ a ∈ as, C.He a = none
  hid : ∀ a ∈ C.N, C.He a ≠ none
  unn : ∀ u ∈ C.U, u ∈ C.N ∧ H u ≠ none
structure Keep (l : List Addr) (H H' : Hp) : Prop where
  see : Same (hide H l) (hide H' l)
  all : ∀ a, H a ≠ none → H' a ≠ none
theorem Keep.refl (l : List Addr) (H : Hp) : Keep l H H := ⟨Same.refl _, fun _ h => h⟩
theorem Keep.trans {l : List Addr} {H H1 H2 : Hp} (a : Keep l H H1) (b : Keep l H1 H2) : Keep l H H2 := ⟨a.see.trans b.see, fun x h => b.all x (a.all x h)⟩
theorem Keep.new {l : List Addr} {H : Hp} {p : Addr} (h : H p = none) (o : HO) : Keep l H (upd H p o) := ⟨hide_mono (same_new h o), fun a z => by
  by_cases c : a = p
  · rw [c, upd_same]; exact fun q => by cases q
  · rw [upd_ne c]; exact z⟩
theorem Keep.of {l : List Addr} {H H' : Hp} (e : Same H H') : Keep l H H' := ⟨hide_mono e, fun a z => by
  cases q : H a with
  | none => exact absurd q z
  | some o => rw [e a o q]; exact fun z => by cases z⟩
section
variable {K : PySem.W.Frag} {G G' H H' : Hp} {U as : List Addr} {σ : List (Option V)} {ρ : Env}
theorem UrnAt.some {u : Addr} {n : Nat} (h : UrnAt H u n) : H u ≠ none := by
  obtain ⟨b, s, k, e, _⟩ := h
  rw [e]; exact fun z => by cases z
theorem UrnAt.more {u : Addr} {n n' : Nat} (h : UrnAt H u n) (e : n ≤ n') : UrnAt H u n' := by
  obtain ⟨b, s, k, e1, h0, h1, h2, h3⟩ := h
  exact ⟨b, s, k, e1, h0, h1, h2, Nat.le_trans h3 e⟩
theorem RepS.len (r : RepS K G H U σ ρ as) : σ.length = ρ.length := by
  induction r with
  | nil => rfl
  | un _ ih => simp [ih]
  | d _ _ ih => simp [ih]
  | obj _ _ _ _ ih => simp [ih]
  | urn _ _ _ ih => simp [ih]
theorem RepS.mono (r : RepS K G H U σ ρ as) (e : Same G G') (ha : ∀ a ∈ as, H' a = H a) (hu : ∀ u n, u ∈ U → UrnAt H u n → UrnAt H' u n) : RepS K G' H' U σ ρ as := by
  induction r with
  | nil => exact .nil
  | un _ ih => exact .un (ih ha)
  | d h _ ih => exact .d (dp_mono e h) (ih ha)
  | obj h1 h2 h3 _ ih => exact .obj ((ha _ (List.mem_cons_self ..)).trans h1) (h2.mono e) h3 (ih fun a h => ha a (List.mem_cons_of_mem _ h))
  | urn h1 h2 _ ih => exact .urn (hu _ _ h2 h1) h2 (ih ha)
theorem RepS.get (r : RepS K G H U σ ρ as) : ∀ {i : Nat} {d : PyData}, ρ[i]? = some (.d d) → ∃ v, σ[i]? = some (some v) ∧ Dq K G v d := by
  induction r with
  | nil => intro i d e; simp at e
  | un _ ih =>
    intro i d e
    cases i with
    | zero => simp at e
    | succ i => exact ih (i := i) (by simpa using e)
  | d h _ ih =>
    intro i d e
    cases i with
    | zero => simp at e; subst e; exact ⟨_, rfl, h⟩
    | succ i => exact ih (i := i) (by simpa using e)
  | obj _ _ _ _ ih =>
    intro i d e
    cases i with
    | zero => simp at e
    | succ i => exact ih (i := i) (by simpa using e)
  | urn _ _ _ ih =>
    intro i d e
    cases i with
    | zero => simp at e
    | succ i => exact ih (i := i) (by simpa using e)
theorem RepS.getObj (r : RepS K G H U σ ρ as) : ∀ {i : Nat} {o : OD}, ρ[i]? = some (.obj o) → ∃ a ho, σ[i]? = some (some (.ref a)) ∧ a ∈ as ∧ H a = some ho ∧ OQ K G ho o := by
  induction r with
  | nil => intro i d e; simp at e
  | un _ ih =>
    intro i d e
    cases i with
    | zero => simp at e
    | succ i => exact ih (i := i) (by simpa using e)
  | d h _ ih =>
    intro i d e
    cases i with
    | zero => simp at e
    | succ i => exact ih (i := i) (by simpa using e)
  | obj h1 h2 h3 _ ih =>
    intro i d e
    cases i with
    | zero => simp at e; subst e; exact ⟨_, _, rfl, List.mem_cons_self .., h1, h2⟩
    | succ i =>
      obtain ⟨a, xs, q1, q2, q3⟩ := ih (i := i) (by simpa using e)
      exact ⟨a, xs, by simpa using q1, List.mem_cons_of_mem _ q2, q3⟩
  | urn _ _ _ ih =>
    intro i d e
    cases i with
    | zero => simp at e
    | succ i => exact ih (i := i) (by simpa using e)
theorem RepS.set {x : Option V} {sl : Slot} {new : List Addr} (hs : ∀ {σ ρ as}, RepS K G H U σ ρ as → (∀ a ∈ new, a ∉ as) → RepS K G H U (x :: σ) (sl :: ρ) (new ++ as)) (r : RepS K G H U σ ρ as) :
    ∀ (i : Nat), (∀ a ∈ new, a ∉ as) → ∃ as', RepS K G H U (σ.set i x) (ρ.set i sl) as' ∧ ∀ a, a ∈ as' → a ∈ new ∨ a ∈ as := by
  induction r with
  | nil => intro i _; exact ⟨[], .nil, fun _ h => nomatch h⟩
  | @un y σ ρ as t ih =>
    intro i hn
    cases i with
    | zero => exact ⟨_, hs t hn, fun a h => List.mem_append.mp h⟩
    | succ i =>
      obtain ⟨as', q1, q2⟩ := ih i hn
      exact ⟨as', .un q1, q2⟩
  | @d v d σ ρ as h t ih =>
    intro i hn
    cases i with
    | zero => exact ⟨_, hs t hn, fun a h => List.mem_append.mp h⟩
    | succ i =>
      obtain ⟨as', q1, q2⟩ := ih i hn
      exact ⟨as', .d h q1, q2⟩
  | @obj b xs ds σ ρ as h1 h2 h3 t ih =>
    intro i hn
    have hn' : ∀ a ∈ new, a ∉ as := fun a ha z => hn a ha (List.mem_cons_of_mem _ z)
    cases i with
    | zero => exact ⟨_, hs t hn', fun a h => (List.mem_append.mp h).imp id (List.mem_cons_of_mem _)⟩
    | succ i =>
      obtain ⟨as', q1, q2⟩ := ih i hn'
      refine ⟨b :: as', .obj h1 h2 (fun z => ?_) q1, fun a h => ?_⟩
      · rcases q2 b z with z | z
        · exact hn b z (List.mem_cons_self ..)
        · exact h3 z
      · rcases List.mem_cons.mp h with h | h
        · subst h; exact .inr (List.mem_cons_self ..)
        · exact (q2 a h).imp id (List.mem_cons_of_mem _)
  | @urn b n σ ρ as h1 h2 t ih =>
    intro i hn
    cases i with
    | zero => exact ⟨_, hs t hn, fun a h => List.mem_append.mp h⟩
    | succ i =>
      obtain ⟨as', q1, q2⟩ := ih i hn
      exact ⟨as', .urn h1 h2 q1, q2⟩
end
end DL
namespace DL
open PySem PySem.Spec PyProof.Rows L2
section
variable {K : PySem.W.Frag} {C : Fx} {as : List Addr} {H H' H1 H2 : Hp} {σ : List (Option V)} {ρ ρ' ρ1 ρ2 : Env}
theorem RepS.at {G : Hp} {U : List Addr} (r : RepS K G H U σ ρ as) : ∀ a ∈ as, ∃ o, H a = some o := by
  induction r with
  | nil => intro a h; cases h
  | un _ ih => exact ih
  | d _ _ ih => exact ih
  | obj h1 _ _ _ ih =>
    intro a h
    rcases List.mem_cons.mp h with rfl | h
    · exact ⟨_, h1⟩
    · exact ih a h
  | urn _ _ _ ih => exact ih
theorem Rep.same (r : Rep K C as H σ ρ) (e : Same H H') : Rep K C as H' σ ρ where
  rep := r.rep.mono (hide_mono e) (fun a ha => by
    obtain ⟨xs, q⟩ := r.rep.at a ha
    rw [q, e a _ q]) fun u n _ hu => by
      obtain ⟨b, s, k, q, z⟩ := hu
      exact ⟨b, s, k, e u _ q, z⟩
  ent := r.ent.trans fun b o _ q => e b o q
  own := r.own
  hid := r.hid
  unn := fun u hu => ⟨(r.unn u hu).1, (Keep.of (l := []) e).all u (r.unn u hu).2⟩
abbrev WD := Env → (PyData → Env → Prop) → Prop
abbrev WT := Env → (Bool → Env → Prop) → Prop
abbrev WA := Env → (List PyData → Env → Prop) → Prop
def tD (K : PySem.W.Frag) (C : Fx) (w : WD) : TE := fun σ H Q => ∃ as ρ k, Rep K C as H σ ρ ∧ w ρ k ∧
  ∀ d ρ' v H', k d ρ' → Rep K C as H' σ ρ' → Keep (as ++ C.N) H H' → Dq K (hide H' (as ++ C.N)) v d → Q v H'
def tDT (K : PySem.W.Frag) (C : Fx) (w : WT) : TT := fun σ H Q => ∃ as ρ k, Rep K C as H σ ρ ∧ w ρ k ∧
  ∀ b ρ' H', k b ρ' → Rep K C as H' σ ρ' → Keep (as ++ C.N) H H' → Q b H'
end
variable {X : Cx} {C : Fx}
def PD (X : Cx) (C : Fx) (e : Expr) (w : WD) : Prop := PE X e (tD X.K C w)
def PDT (X : Cx) (C : Fx) (e : Expr) (w : WT) : Prop := PT X e (tDT X.K C w)
theorem pe_imp {e : Expr} {t t' : TE} (h : PE X e t) (i : ∀ σ H Q, t' σ H Q → t σ H Q) : PE X e t' := ⟨fun pins s σ H Q I q => h.run pins s σ H Q I (i σ H Q q)⟩
theorem pt_imp {e : Expr} {t t' : TT} (h : PT X e t) (i : ∀ σ H Q, t' σ H Q → t σ H Q) : PT X e t' := ⟨fun pins s σ H Q I q => h.run pins s σ H Q I (i σ H Q q)⟩
theorem pa_imp {e : List Expr} {t t' : TA} (h : PA X e t) (i : ∀ σ H Q, t' σ H Q → t σ H Q) : PA X e t' := ⟨fun pos pins s σ H Q I q => h.run pos pins s σ H Q I (i σ H Q q)⟩
theorem not_hid {K : PySem.W.Frag} {as : List Addr} {H : Hp} {σ : List (Option V)} {ρ : Env} {p : Addr} (r : Rep K C as H σ ρ) (h : H p = none) : p ∉ as ++ C.N := fun z => by
  rcases List.mem_append.mp z with z | z
  · obtain ⟨xs, q⟩ := r.rep.at p z
    rw [q] at h; cases h
  · by_cases c : p ∈ C.U
    · exact (r.unn p c).2 h
    · cases q : C.He p with
      | none => exact r.hid p z q
      | some o =>
        have := r.ent p o c q
        rw [h] at this; cases this
end DL
namespace DL
open PySem PySem.Spec PyProof.Rows L2
section
variable {K : PySem.W.Frag} {H : Hp} {v : V}
theorem seqT_un {l : List Addr} {a : Addr} {xs : List V} (h : SqT K (hide H l) a xs) : SqT K H a xs := seqT (hide_same H l) h
end
variable {X : Cx} {C : Fx}
def rCatL (K : PySem.W.Frag) : R2 := fun x y H Q => ∃ l b xs zs, x = .ref l ∧ y = .ref b ∧ SqL K H l xs ∧ SqL K H b zs ∧ xs.length + zs.length ≤ sizeLine ∧ ∀ p, H p = none → Q (.ref p) (upd H p (.lst (xs ++ zs)))
theorem op_catL : OpR X (binaryOp .Add) (rCatL X.K) := by
  intro pins s σ H x y v u Q I rx ry h
  obtain ⟨l, b, xs, zs, rfl, rfl, h1, h2, hz, q⟩ := h
  cases rx
  cases ry
  obtain ⟨is1, r1, ⟨⟨c1, d1, t1, s1⟩, n1, ho1, hc1, _, hd1⟩, _⟩ := I.list h1
  obtain ⟨is2, r2, ⟨⟨c2, d2, t2, s2⟩, n2, ho2, hc2, _, hd2⟩, _⟩ := I.list h2
  dsimp only at hc1 hd1 hc2 hd2
  subst hc1 hd1 hc2 hd2
  have k1 := r1.length
  have k2 := r2.length
  have ea : is1.toArray ++ is2.toArray = (is1 ++ is2).toArray := by simp
  refine concat_meets ⟨_, ho1, rfl⟩ ⟨_, ho2, rfl⟩ noFill_list_add seq_list_add PySem.F.slot_list_add PySem.F.entry_list_add (PySem.F.args_list_add_2 _ _)
    (list_addW l b is1.toArray is2.toArray n1 n2 d1 d2 s1 s2 (by rw [List.size_toArray, List.size_toArray]; omega)) ⟨ho1, ho2, ?_⟩
  rw [ea]
  exact ⟨.ref _, _, I.lnew (t' := s.toks) (r1.append r2) (by rw [List.length_append]; omega), rfl, q _ I.fresh⟩
section
variable {a b : Expr} {pos : Pos} {wa wb : WD}
end
def PDW (X : Cx) (C : Fx) (e : Expr) (w : WT) : Prop := PW X e (tDT X.K C w)
theorem pw_imp {e : Expr} {t t' : TT} (h : PW X e t) (i : ∀ σ H Q, t' σ H Q → t σ H Q) : PW X e t' := ⟨fun wh pins s σ H Q I q => h.run wh pins s σ H Q I (i σ H Q q)⟩
theorem PDW.pt {e : Expr} {w : WT} (h : PDW X C e w) : PDT X C e w := PW.pt h
section
variable {a b : Expr} {rest : List Expr} {pos : Pos} {w w' : WT}
end
end DL
namespace DL
open PySem PySem.Spec PyProof.Rows L2
variable {X : Cx} {C : Fx}
def seqOf : PyData → Option (List PyData)
  | .tuple ds => some ds
  | .list ds => some ds
  | _ => none
theorem po_imp {e : Option Expr} {t t' : TO} (h : PO X e t) (i : ∀ σ H Q, t' σ H Q → t σ H Q) : PO X e t' := ⟨fun pins s σ H Q I q => h.run pins s σ H Q I (i σ H Q q)⟩
def cut {α : Type} (xs : List α) (lo hi : Option Int) : List α := (xs.drop (HT.sIx xs.length 0 lo)).take (HT.sIx xs.length xs.length hi - HT.sIx xs.length 0 lo)
theorem sl_D : SlR X (fun x lo hi H Q => rSlA X.K x lo hi H Q ∨ rSlL X.K x lo hi H Q) := SlR.or sl_tupA sl_list
section
variable {x : Str} {p pos : Pos} {e : Expr} {es : List Expr} {ws : WA}
end
def fTuple : List PyData → (PyData → Prop) → Prop := fun ds k => ∃ d xs, ds = [d] ∧ seqOf d = some xs ∧ k (.tuple xs)
end DL
namespace DL
open PySem PySem.Spec PyProof.Rows L2
structure DEnds where
  nx : Env → Prop
  rt : PyData → Env → Prop
  bk : Env → Prop := fun _ => False
  ct : Env → Prop := fun _ => False
abbrev WS := DEnds → Env → Prop
structure Step (C : Fx) (as : List Addr) (H : Hp) (as' : List Addr) (H' : Hp) : Prop where
  kp : ∀ a o, a ∉ as ++ C.N → H a = some o → H' a = some o
  su : ∀ a ∈ as', a ∈ as ∨ H a = none
  al : ∀ a, H a ≠ none → H' a ≠ none
section
variable {K : PySem.W.Frag} {C : Fx} {as as' as1 as2 : List Addr} {H H' H1 H2 : Hp} {σ : List (Option V)} {ρ : Env}
theorem Step.refl : Step C as H as H := ⟨fun _ _ _ h => h, fun _ h => .inl h, fun _ h => h⟩
theorem Step.trans (a : Step C as H as1 H1) (b : Step C as1 H1 as2 H2) : Step C as H as2 H2 where
  kp := fun x o hx h => b.kp x o (fun z => by
    rcases List.mem_append.mp z with z | z
    · rcases a.su x z with q | q
      · exact hx (List.mem_append_left _ q)
      · rw [q] at h; cases h
    · exact hx (List.mem_append_right _ z)) (a.kp x o hx h)
  su := fun x hx => by
    rcases b.su x hx with q | q
    · exact a.su x q
    · refine .inr ?_
      cases e : H x with
      | none => rfl
      | some o => exact absurd q (a.al x (by rw [e]; exact fun z => by cases z))
  al := fun x h => b.al x (a.al x h)
theorem Keep.step (k : Keep (as ++ C.N) H H') : Step C as H as H' where
  kp := fun a o ha h => (hide_some (k.see a o (by rw [hide_out ha]; exact h))).2
  su := fun _ h => .inl h
  al := k.all
theorem Step.sub (h : ∀ a ∈ as', a ∈ as) : Step C as H as' H := ⟨fun _ _ _ h => h, fun a z => .inl (h a z), fun _ h => h⟩
theorem Step.see (s : Step C as H as' H') : Same (hide H (as ++ C.N)) (hide H' (as' ++ C.N)) := fun b o h => by
  obtain ⟨c, h⟩ := hide_some h
  rw [hide_out]
  · exact s.kp b o c h
  · intro z
    rcases List.mem_append.mp z with z | z
    · rcases s.su b z with q | q
      · exact c (List.mem_append_left _ q)
      · rw [q] at h; cases h
    · exact c (List.mem_append_right _ z)
theorem RepS.free {G : Hp} {U : List Addr} (r : RepS K G H U σ ρ as) : ∀ {i : Nat} {ds : OD} {b : Addr}, ρ[i]? = some (.obj ds) → σ[i]? = some (some (.ref b)) → ∃ as', RepS K G H U σ (ρ.set i .un) as' ∧ b ∉ as' ∧ ∀ a ∈ as', a ∈ as := by
  induction r with
  | nil => intro i ds b e; simp at e
  | @un y σ ρ as t ih =>
    intro i ds b e1 e2
    cases i with
    | zero => simp at e1
    | succ i =>
      obtain ⟨as', q1, q2, q3⟩ := ih (i := i) (b := b) (by simpa using e1) (by simpa using e2)
      exact ⟨as', .un q1, q2, q3⟩
  | @d v d σ ρ as h t ih =>
    intro i ds b e1 e2
    cases i with
    | zero => simp at e1
    | succ i =>
      obtain ⟨as', q1, q2, q3⟩ := ih (i := i) (b := b) (by simpa using e1) (by simpa using e2)
      exact ⟨as', .d h q1, q2, q3⟩
  | @obj c xs ds' σ ρ as h1 h2 h3 t ih =>
    intro i ds b e1 e2
    cases i with
    | zero =>
      simp at e2
      subst e2
      exact ⟨as, .un t, h3, fun a z => List.mem_cons_of_mem _ z⟩
    | succ i =>
      obtain ⟨as', q1, q2, q3⟩ := ih (i := i) (b := b) (by simpa using e1) (by simpa using e2)
      obtain ⟨b', zs, p1, p2, _⟩ := t.getObj (i := i) (o := ds) (by simpa using e1)
      have e2' : σ[i]? = some (some (V.ref b)) := by simpa using e2
      rw [p1] at e2'
      cases e2'
      refine ⟨c :: as', .obj h1 h2 (fun z => h3 (q3 c z)) q1, fun z => ?_, fun a z => ?_⟩
      · rcases List.mem_cons.mp z with z | z
        · subst z; exact h3 p2
        · exact q2 z
      · rcases List.mem_cons.mp z with z | z
        · subst z; exact List.mem_cons_self ..
        · exact List.mem_cons_of_mem _ (q3 a z)
  | @urn c n σ ρ as h1 h2 t ih =>
    intro i ds b e1 e2
    cases i with
    | zero => simp at e1
    | succ i =>
      obtain ⟨as', q1, q2, q3⟩ := ih (i := i) (b := b) (by simpa using e1) (by simpa using e2)
      exact ⟨as', .urn h1 h2 q1, q2, q3⟩
end
def tDS (K : PySem.W.Frag) (C : Fx) (w : WS) : TS := fun D σ H => ∃ as ρ P, Rep K C as H σ ρ ∧ w P ρ ∧
  (∀ as' ρ' σ' H', P.nx ρ' → Rep K C as' H' σ' ρ' → Step C as H as' H' → D.nx σ' H') ∧
  (∀ d ρ' v as' σ' H', P.rt d ρ' → Rep K C as' H' σ' ρ' → Step C as H as' H' → Dq K (hide H' (as' ++ C.N)) v d → D.rt v H') ∧
  (∀ as' ρ' σ' H', P.bk ρ' → Rep K C as' H' σ' ρ' → Step C as H as' H' → D.bk σ' H') ∧
  (∀ as' ρ' σ' H', P.ct ρ' → Rep K C as' H' σ' ρ' → Step C as H as' H' → D.ct σ' H')
variable {X : Cx} {C : Fx}
def PDSs (X : Cx) (C : Fx) (st : List Stmt) (w : WS) : Prop := PSs X st (tDS X.K C w)
theorem ps_imp {st : Stmt} {t t' : TS} (h : PS X st t) (i : ∀ D σ H, t' D σ H → t D σ H) : PS X st t' := ⟨fun pins s σ H D I q => h.run pins s σ H D I (i D σ H q)⟩
theorem pss_imp {st : List Stmt} {t t' : TS} (h : PSs X st t) (i : ∀ D σ H, t' D σ H → t D σ H) : PSs X st t' := ⟨fun pins s σ H D I q => h.run pins s σ H D I (i D σ H q)⟩
section
variable {st : Stmt} {rest a b : List Stmt} {w w' w1 w2 : WS} {we : WD} {wt : WT} {e c : Expr} {pos : Pos}
end
end DL
namespace DL
open PySem PySem.Spec PyProof.Rows L2
def Its (K : PySem.W.Frag) (l0 : List Addr) (H0 : Hp) (ds : List PyData) (J : It) : Prop :=
  ∃ (G : Hp → Prop) (Y : Nat → Hp → V → Hp → Prop), Walk J ds.length G Y ∧ (∀ l H, Same (hide H0 l0) (hide H l) → G H) ∧
    ∀ (j : Nat) (x : V) (l : List Addr) (H H' : Hp), j < ds.length → Same (hide H0 l0) (hide H l) → (∀ a, H a = none → a ∉ l) → Y j H x H' → Same H H' ∧ ∃ d, ds[j]? = some d ∧ Dq K (hide H' l) x d
abbrev WI := Env → (List PyData → Env → Prop) → Prop
theorem pi_imp {X : Cx} {tg iter : Expr} {t t' : TI} (h : PI X tg iter t) (i : ∀ σ H R, t' σ H R → t σ H R) : PI X tg iter t' := ⟨fun pins s σ H R I q => h.run pins s σ H R I (i σ H R q)⟩
variable {X : Cx} {C : Fx}
section
variable {K : PySem.W.Frag} {l0 : List Addr} {H0 : Hp} {a b : Addr} {xs ys : List V} {ds es : List PyData}
theorem its_tup (h : SqT K (hide H0 l0) a xs) (t : DqAll K (hide H0 l0) xs ds) : Its K l0 H0 ds (Itt K a) := by
  refine ⟨_, _, by rw [← dps_len t]; exact walk_tup (K := K) (a := a) (xs := xs), fun l H s => seqT_un (seqT s h), fun j x l H H' hj s _ y => ?_⟩
  obtain ⟨e, q⟩ := y
  subst e
  obtain ⟨d, h1, h2⟩ := dps_get' t q
  exact ⟨Same.refl _, d, h1, dp_mono s h2⟩
theorem dq_pair {l : List Addr} {H : Hp} {T : Addr} {x y : V} {d e : PyData} (hT : H T = none) (ht : T ∉ l) (h1 : Dq K (hide H l) x d) (h2 : Dq K (hide H l) y e) : Dq K (hide (upd H T (.tup [x, y])) l) (.ref T) (.tuple [d, e]) :=
  .tup (SqT.of (by rw [hide_out ht]; exact upd_same)) (.cons (dp_mono (hide_mono (same_new hT _)) h1) (.cons (dp_mono (hide_mono (same_new hT _)) h2) .nil))
def zipD (ds es : List PyData) : List PyData := List.zipWith (fun d e => .tuple [d, e]) ds es
theorem its_zipT (h1 : SqT K (hide H0 l0) a xs) (t1 : DqAll K (hide H0 l0) xs ds) (h2 : SqT K (hide H0 l0) b ys) (t2 : DqAll K (hide H0 l0) ys es) : Its K l0 H0 (zipD ds es) (RZ.ItzT K a b) := by
  have hl : (zipD ds es).length = min xs.length ys.length := by rw [zipD, List.length_zipWith, dps_len t1, dps_len t2]
  refine ⟨fun H => SqT K H a xs ∧ SqT K H b ys, YPair (fun i => xs[i]?) (fun i => ys[i]?), ⟨?_, ?_, ?_⟩, fun l H s => ⟨seqT_un (seqT s h1), seqT_un (seqT s h2)⟩, fun j x l H H' hj s hn y => ?_⟩
  · intro i H hi ⟨p, q⟩
    rw [hl] at hi
    have i1 : i < xs.length := by omega
    have i2 : i < ys.length := by omega
    exact ⟨xs, ys, _, _, p, q, List.getElem?_eq_getElem i1, List.getElem?_eq_getElem i2⟩
  · intro H ⟨p, q⟩
    refine ⟨xs, ys, p, q, ?_⟩
    rw [hl]
    omega
  · intro i H x H' hi ⟨p, q⟩ y
    obtain ⟨T, u, v, e1, e2, e3, f1, f2⟩ := y
    exact ⟨T, u, v, e1, e2, e3, f1 xs p, f2 ys q⟩
  · obtain ⟨T, u, v, rfl, hT, rfl, q1, q2⟩ := y
    obtain ⟨d, g1, g2⟩ := dps_get' t1 q1
    obtain ⟨e, g3, g4⟩ := dps_get' t2 q2
    exact ⟨same_new hT _, .tuple [d, e], by simp [zipD, List.getElem?_zipWith, g1, g3], dq_pair hT (hn T hT) (dp_mono s g2) (dp_mono s g4)⟩
end
section
variable {tg e : Expr} {we : WD} {p pos tpos : Pos} {kk : Nat} {elts : List Expr}
end
theorem wipe_at (σ : L2.St) : ∀ (us : List Nat) (j : Nat), (wipe σ us)[j]? = if j ∈ us ∧ j < σ.length then some none else σ[j]?
  | [], j => by simp [wipe]
  | v :: us, j => by
    unfold wipe
    rw [List.getElem?_set, wipe_at σ us j, wipe_length]
    by_cases c : v = j
    · subst c
      by_cases l : v < σ.length
      · simp [l]
      · simp [l]
    · have c' : j ≠ v := fun z => c z.symm
      simp [c, c']
theorem wipe_wipe {σ : L2.St} {us : List Nat} : wipe (wipe σ us) us = wipe σ us := by
  refine List.ext_getElem? fun j => ?_
  rw [wipe_at, wipe_at, wipe_length]
  by_cases c : j ∈ us ∧ j < σ.length
  · simp [c]
  · simp [c]
abbrev WG := PyData → Env → (Env → Prop) → Prop
theorem pg_imp {tg : Expr} {t t' : TG} (h : PG X tg t) (i : ∀ v σ H Q, t' v σ H Q → t v σ H Q) : PG X tg t' := ⟨fun pins s σ H v u Q I r q => h.run pins s σ H v u Q I r (i v σ H Q q)⟩
theorem pgs_imp {tgs : List Expr} {t t' : TGs} (h : PGs X tgs t) (i : ∀ v σ H Q, t' v σ H Q → t v σ H Q) : PGs X tgs t' := ⟨fun pins s σ H v u Q I r q => h.run pins s σ H v u Q I r (i v σ H Q q)⟩
theorem Rep.free {K : PySem.W.Frag} {as : List Addr} {H : Hp} {σ : List (Option V)} {ρ : Env} (r : Rep K C as H σ ρ) : ∀ a, H a = none → a ∉ as ++ C.N := fun a h => not_hid r h
end DL
namespace DL
open PySem PySem.Spec PyProof.Rows L2
variable {X : Cx} {C : Fx}
section
variable {K : PySem.W.Frag} {G H : Hp} {U as : List Addr} {σ : List (Option V)} {ρ : Env}
theorem RepS.any (r : RepS K G H U σ ρ as) (x : Option V) : ∀ {i : Nat}, ρ[i]? = some .un → RepS K G H U (σ.set i x) ρ as := by
  induction r with
  | nil => intro i e; simp at e
  | un t ih =>
    intro i e
    cases i with
    | zero => exact .un t
    | succ i => exact .un (ih (by simpa using e))
  | d h t ih =>
    intro i e
    cases i with
    | zero => simp at e
    | succ i => exact .d h (ih (by simpa using e))
  | obj h1 h2 h3 t ih =>
    intro i e
    cases i with
    | zero => simp at e
    | succ i => exact .obj h1 h2 h3 (ih (by simpa using e))
  | urn h1 h2 t ih =>
    intro i e
    cases i with
    | zero => simp at e
    | succ i => exact .urn h1 h2 (ih (by simpa using e))
end
section
variable {elt tg iter : Expr} {ifs : List Expr} {scope : Scope} {own : List (Str × Nat)} {pos : Pos} {wi : WI} {wg : WG} {wt : WT} {we : WD} {gs : List Nat}
theorem pts_imp {Y : Cx} {t t' : TT} (h : PTs Y ifs t) (i : ∀ σ H Q, t' σ H Q → t σ H Q) : PTs Y ifs t' := ⟨fun pins s σ H Q I q => h.run pins s σ H Q I (i σ H Q q)⟩
end
end DL
set_option maxHeartbeats 4000000
namespace PySem
open AutoSeq1
theorem extend_by_tuple (l : Addr) (items : Array Value) (n : Nat) (b : Addr) (dct : Option Addr) (slo : Array (Option Value)) (more : Array Value) (n2 : Nat) (h0 : ¬(!items.isEmpty && Builtin.List.listTooLong (items.size + more.size)) = true) (h1 : items.size ≤ sizeLine) (h2 : items.size + more.size ≤ sizeLine + 1) :
    Meets (Builtin.«list.extend» ⟨[.ref l, .ref b], []⟩) (fun _ R s => s.heap.get? l = some { cls := .type "list", dict := none, data := .seq items n, slots := #[] } ∧
      s.heap.get? b = some { cls := .type "tuple", dict := dct, data := .seq more n2, slots := slo } ∧ R (.ok (.ret Value.none)) { s with heap := s.heap.update l (Obj.mapSeq fun x => x ++ more), toks := s.toks }) :=
  .of_wp fun prog w A R s h => by
    obtain ⟨hp, g, d, tk, os⟩ := s
    obtain ⟨hl, hb, h⟩ := h
    have f1 := idx_int
    have f2 := sub_tuple_tuple
    have f3 := sub_list_list
    have f4 := sub_tuple_list
    have f5 := sub_list_tuple
    have hz' : (items ++ more).size ≤ sizeLine + 1 := by rw [Array.size_append]; exact h2
    wp_walk using (wpAny_updateSeq hl rfl (hz := h1) (_hz' := hz')), wpAny_loadPart' hl, wpAny_loadPart' hb
    exact ⟨_, rfl, h⟩
end PySem
namespace DL
open PySem PySem.Spec PyProof.Rows L2
variable {X : Cx} {C : Fx}
def rExtT (K : PySem.W.Frag) : V → List V → Hp → VK → Prop := fun x vs H Q => ∃ l b xs zs, x = .ref l ∧ vs = [.ref b] ∧ H l = some (.lst xs) ∧ SqT K H b zs ∧ xs.length + zs.length ≤ sizeLine ∧ Q .non (upd H l (.lst (xs ++ zs)))
theorem mt_extT : MtM X "list.extend" (rExtT X.K) := by
  intro pins s σ H x vs v us Q I rx rv h
  obtain ⟨l, b, xs, zs, rfl, rfl, hH, hB, hz, q⟩ := h
  cases rx
  obtain ⟨u, rfl, ru⟩ := rv.one
  cases ru
  obtain ⟨z, its, n, r, hl, e⟩ := I.lstM hH
  obtain ⟨its2, r2, ⟨⟨cl, dct, dat, slo⟩, ho, hc, n2, hd⟩, _⟩ := I.tuple hB
  dsimp only at hc hd
  subst hc
  subst hd
  have l1 := r.length
  have l2 := r2.length
  have hsz : its.toArray.size + its2.toArray.size ≤ sizeLine := by rw [List.size_toArray, List.size_toArray]; omega
  have hlong : ¬ (!its.toArray.isEmpty && Builtin.List.listTooLong (its.toArray.size + its2.toArray.size)) = true := by
    rw [notLongL hsz, Bool.and_false]
    exact Bool.false_ne_true
  refine call_meets F.slot_list_extend ⟨_, e, rfl⟩ F.entry_list_extend (F.args_list_extend_2 _ _) (extend_by_tuple l its.toArray n b dct slo its2.toArray n2 hlong (by rw [List.size_toArray]; omega) (by omega)) ⟨e, ho, ?_⟩
  refine ⟨.non, _, I.lset (its' := its ++ its2) hH e (by simp) (r.append r2) ?_, rfl, q⟩
  rw [List.length_append]
  omega
section
variable {i : Nat} {x : Str} {px apos cpos pos : Pos} {e : Expr} {we : WD}
end
section
variable {K : PySem.W.Frag} {G H : Hp} {U : List Addr}
end
end DL
namespace DL
open PySem PySem.Spec PyProof.Rows L2
variable {X : Cx} {C : Fx}
section
variable {a b : Expr} {rest : List Expr} {pos : Pos} {wa wb : WD}
end
def isT (T : String) : Bool := T == "int" || T == "bool" || T == "str" || T == "list" || T == "tuple"
section
variable {e : Expr} {we : WD} {x : Str} {p p2 p3 pos : Pos}
theorem kit_any2 {K : PySem.W.Frag} {t u u' : Value} {b b' : Bool} (h : PySem.W.kitOne K t u = some b) (h' : PySem.W.kitOne K t u' = some b') : PySem.W.kitAny K t [u, u'] = some (b || b') := by
  cases b <;> cases b' <;> simp [PySem.W.kitAny, h, h']
end
end DL
namespace DL
open PySem PySem.Spec PyProof.Rows L2
structure Df (P : Program) (w : World) (K : PySem.W.Frag) (mg : Str → Option Value) (base : Heap) (x : Str) (ps : List Str) (k : Nat) (sp : Sp) : Prop where
  ex : ∃ f fd, FnOk P w K mg base CX0 k f fd ps sp ∧ mg x = some (.ref f) ∧ PySem.W.keepIn K (.ref f) = true ∧ Binds K fd ps []
theorem Df.imp {P : Program} {w : World} {K : PySem.W.Frag} {mg : Str → Option Value} {base : Heap} {x : Str} {ps : List Str} {k : Nat} {sp sp' : Sp} (D : Df P w K mg base x ps k sp) (h : ∀ vs H Q E, sp' vs H Q E → sp vs H Q E) : Df P w K mg base x ps k sp' := by
  obtain ⟨f, fd, h1, h2, h3, h4⟩ := D.ex
  exact ⟨f, fd, h1.imp h, h2, h3, h4⟩
variable {X : Cx} {C : Fx}
section
variable {p pos : Pos} {e : Expr} {ws : WA}
end
end DL
namespace DL
open PySem PySem.Spec PyProof.Rows L2
variable {X : Cx} {C : Fx}
mutual
def sz : PyData → Nat
  | .list xs => 1 + szs xs
  | .tuple xs => 1 + szs xs
  | _ => 1
def szs : List PyData → Nat
  | [] => 0
  | x :: xs => sz x + szs xs
end
theorem sz_pos (d : PyData) : 0 < sz d := by cases d <;> simp only [sz] <;> omega
end DL
namespace DL
open PySem PySem.Spec PyProof.Rows L2
section
variable {K : PySem.W.Frag} {C : Fx} {as : List Addr} {H H2 : Hp} {σ : List (Option V)} {ρ ρ2 : Env} {p : Addr} {xs : List V} {ds : List PyData}
end
variable {X : Cx} {C : Fx}
end DL
namespace DL
open PySem PySem.Spec PyProof.Rows L2
variable {X : Cx} {C : Fx}
section
variable {K : PySem.W.Frag} {as : List Addr} {H : Hp} {σ : List (Option V)} {ρ : Env}
end
end DL
namespace DL
open PySem PySem.Spec PyProof.Rows L2
variable {X : Cx} {C : Fx}
end DL
namespace DL
open PySem PySem.Spec PyProof.Rows L2
section
variable {κ : Type} [DecidableEq κ]
variable {K : PySem.W.Frag} {G : Hp}
end
end DL
namespace DL
open PySem PySem.Spec PyProof.Rows L2
variable {X : Cx} {C : Fx}
end DL
namespace DL
open PySem PySem.Spec PyProof.Rows L2
theorem meets_enum1 {v : Value} {o : Obj} {Hh : Heap → Prop} (B : Begins v o Hh) : Meets (Builtin.«enumerate.__new__» ⟨[.type "enumerate", v], []⟩) (fun _ R s => Hh s.heap ∧
    R (.ok (.ret (.ref (s.heap.push o).objs.size))) { s with heap := (s.heap.push o).push { cls := .type "enumerate", data := .fields #[.none, .bool false, .ref s.heap.objs.size, rawInt 0, .none, .none] } }) :=
  .of_wp fun prog w A R s ⟨hh, h⟩ => by
    obtain ⟨hp, g, d, tk, os⟩ := s
    have hsub := sub_enumerate
    have it1 : ∀ {A' : Around} {E Q : Value → Shared → Prop}, Q (.ref hp.objs.size) ⟨hp.push o, g, d, tk, os⟩ → wpAny (model prog w) A' (pyIter v) Q E ⟨hp, g, d, tk, os⟩ :=
      fun q => B.iter prog w _ _ ⟨hp, g, d, tk, os⟩ _ hh q
    wp_walk using it1
    refine wpAny_stack_any fun st => wpAny_pure ?_
    split
    · rename_i c _ _ _ _ _
      cases (c == Value.type "enumerate") <;> (wp_walk using it1; exact ⟨_, rfl, h⟩)
    · wp_walk using it1
      exact ⟨_, rfl, h⟩
theorem call_enum1 {prog : Program} {w : World} {A : Around} {E : Value → Shared → Prop} {s : Shared} {v : Value} {o : Obj} {Hh : Heap → Prop} {Q : Value → Shared → Prop} (B : Begins v o Hh) (hh : Hh s.heap)
    (h : ∀ h', IsEnum h' (s.heap.objs.size + 1) s.heap.objs.size ((0 : Nat) : Int) .none → h'.get? s.heap.objs.size = some o → (∀ b u, s.heap.get? b = some u → h'.get? b = some u) → Q (.ref (s.heap.objs.size + 1)) { s with heap := h' }) :
    wpAny (model prog w) A (call (.type "enumerate") [v]) Q E s := by
  have hz : (s.heap.push o).objs.size = s.heap.objs.size + 1 := Heap.size_push ..
  refine callType_new F.called_enumerate (by decide) (F.typeCall_enumerate_1 _) (F.newCall_enumerate_1 _) (fun obj => F.args_object_init_2 obj _) F.entry_enumerate_new (meets_enum1 B) ⟨hh, ?_⟩
  show _ ∧ _
  rw [hz]
  have he : IsEnum ((s.heap.push o).push { cls := .type "enumerate", data := .fields #[.none, .bool false, .ref s.heap.objs.size, rawInt 0, .none, .none] }) (s.heap.objs.size + 1) s.heap.objs.size ((0 : Nat) : Int) .none := by
    have q := Heap.get?_push_size (s.heap.push o) (o := { cls := .type "enumerate", data := .fields #[.none, .bool false, .ref s.heap.objs.size, rawInt 0, .none, .none] }) rfl
    rw [hz] at q
    exact q
  exact ⟨⟨_, he, rfl⟩, h _ he (Heap.get?_push_of_some _ (Heap.get?_push_size _ B.free)) fun b u x => Heap.get?_push_of_some _ (Heap.get?_push_of_some _ x)⟩
def IteT (K : PySem.W.Frag) (a : Addr) : It :=
  ⟨fun i H => ∃ (xs : List V) (x : V), SqT K H a xs ∧ xs[i]? = some x, fun i H v H' => ∃ T x, v = .ref T ∧ H T = none ∧ H' = upd H T (.tup [.int (i : Nat), x]) ∧ ∀ xs, SqT K H a xs → xs[i]? = some x, fun i H => ∃ xs : List V, SqT K H a xs ∧ xs.length = i⟩
theorem turn_enumT {P : Program} {w : World} {K : PySem.W.Frag} {elts : List Expr} {kk : Nat} {tpos : Pos} {a e it : Addr} (ai : a ≠ it) (ae : e ≠ a) (ei : e ≠ it) :
    Turn P w K (.Tuple elts kk tpos) (IteT K a) [e, it] e (fun i h => (∃ old, IsEnum h e it ((i : Nat) : Int) old) ∧ h.IsTupleIter it a i) where
  mem := List.mem_cons_self ..
  obj := fun i h ⟨⟨old, he⟩, o, ho, _, hd⟩ b hb => by
    rcases List.mem_cons.mp hb with z | z
    · rw [z]; exact ⟨_, he, fun v q => nomatch q⟩
    · rw [List.mem_singleton.mp z]; exact ⟨o, ho, fun v q => by rw [hd] at q; cases q⟩
  keep := fun i h h' ⟨⟨old, he⟩, hi⟩ k => ⟨⟨old, k e (List.mem_cons_self ..) _ he⟩, hi.at fun o q => k it (List.mem_cons_of_mem _ (List.mem_singleton.mpr rfl)) o q⟩
  item := by
    rintro X rfl rfl rfl hc i pins s σ H E I hf ⟨⟨old, he⟩, hit⟩ ⟨xs, x, hq, hx⟩
    obtain ⟨its, rv, p, _⟩ := I.tuple hq
    obtain ⟨u, hu, ru⟩ := rv.get hx
    have el : e < s.heap.objs.size := Heap.lt_size he
    have il : it < s.heap.objs.size := by obtain ⟨_, q, _⟩ := hit; exact Heap.lt_size q
    have hlt : i < its.toArray.size := by
      have := (List.getElem?_eq_some_iff.mp hu).1
      simpa using this
    have Dr := Draws.tuple (prog := X.prog) (w := X.w) (A := X.A.in1) (by exact I.ok.hd hc) it a ai its.toArray
    refine wpAny_pyNext_enum_itemD Dr he ⟨hit, show s.heap.IsTuple a its.toArray from p⟩ hlt ei (fun z => ?_) fun y h' tk hy ho hst hT hsz hk => ?_
    · rcases List.mem_cons.mp z with z | z
      · exact ei z
      · exact ae (List.mem_singleton.mp z)
    have yu : y = u := by
      have hu' : its.toArray[i]? = some u := by simpa using hu
      rw [hu'] at hy
      exact (Option.some.inj hy).symm
    subst yu
    refine ⟨_, rfl, wpAny_letOwnedTupleGo_enum (s := { s with heap := h', toks := tk + 1 }) ho fun h'' he' sb => ?_⟩
    have hT2 : h''.get? s.heap.objs.size = some { cls := .type "tuple", data := .seq #[.int i tk, y] } := (sb.2 _ (Nat.ne_of_gt el)).trans hT
    have new : ObjOk X.prog X.w (upd H s.heap.objs.size (.tup [.int (i : Nat), x])) h'' s.heap.objs.size (.tup [.int (i : Nat), x]) :=
      ⟨by show 2 ≤ sizeLine; decide, [.int i tk, y], .cons ⟨_, rfl⟩ (.cons ru .nil), ⟨_, hT2, rfl, _, rfl⟩⟩
    have I1 : Inv X pins σ (upd H s.heap.objs.size (.tup [.int (i : Nat), x])) { s with heap := h'', toks := tk + 1 } :=
      I.turnedNew (t' := tk + 1) (ch := [e, it]) (fun b ob hb q => (sb.2 b (fun z => hb (by simp [z]))).trans (hk b ob (fun z => hb (by simp [z])) (fun z => hb (by simp [z])) q)) hf (Nat.le_refl _) new
    refine ⟨.ref s.heap.objs.size, _, I1, rfl, ⟨_, x, rfl, I.hok.fresh (Nat.le_refl _), rfl, fun ys hy => by rw [I.tuple_inj hy hq]; exact hx⟩, ⟨⟨y, ?_⟩, hst.1.at fun o q => (sb.2 it (Ne.symm ei)).trans q⟩, fun b hb => ?_⟩
    · have e1 : ((i + 1 : Nat) : Int) = (i : Int) + 1 := by omega
      rw [e1]; exact he'
    · have hb' : b < s.heap.objs.size := by
        rcases List.mem_cons.mp hb with z | z
        · rw [z]; exact el
        · rw [List.mem_singleton.mp z]; exact il
      rw [upd_ne (Nat.ne_of_lt hb')]
      exact (hf b hb).1
  done := by
    rintro X rfl rfl rfl hc i pins s σ H E I hf ⟨⟨old, he⟩, hit⟩ ⟨xs, hq, hx⟩
    obtain ⟨its, rv, p, _⟩ := I.tuple hq
    have hl := rv.length
    obtain ⟨f0, f1, f2, f3, f4, f5⟩ := hf it (List.mem_cons_of_mem _ (List.mem_singleton.mpr rfl))
    have hn : i = its.toArray.size := by
      rw [← hx, hl]
      simp
    subst hn
    have Dr := Draws.tuple (prog := X.prog) (w := X.w) (A := X.A.in1) (by exact I.ok.hd hc) it a ai its.toArray
    exact wpAny_pyNext_enum_endD Dr he ⟨hit, show s.heap.IsTuple a its.toArray from p⟩ fun h' eb => ⟨rfl, I.turned (t' := s.toks) (fun b o hb q => eb b o hb q) f0 f1 f3 f4 f5⟩
  self := fun A i s Q E ⟨⟨_, he⟩, _⟩ h => wpAny_pyIter_enum he h
def iEnumT (K : PySem.W.Frag) (ta : TA) : TI := fun σ H R => ta σ H fun vs H1 => ∃ a xs, vs = [.ref a] ∧ SqT K H1 a xs ∧ R (IteT K a) H1
theorem pi_enumT {X : Cx} {e : Expr} {ta : TA} {p pos tpos : Pos} {elts : List Expr} {kk : Nat} (hg : Gl X "enumerate") (hm : X.mg "enumerate" = none) (ha : PA X [e] ta) (hs : starEach [e] X.env = [(false, eval e X.env)] := by rfl) :
    PI X (.Tuple elts kk tpos) (.Call (.Name "enumerate" p) [e] [] pos) (iEnumT X.K ta) := by
  refine ⟨fun pins s σ H R I h => ?_⟩
  refine Call_ (ld_blt I hg hm boot_enumerate (PyProof.Rows.callWith_type1 (thn (ha.run pos pins s σ H _ I h) fun us s1 ⟨vs, H1, I1, r1, a, xs, ex, hq, q⟩ => ?_) hs rfl))
  subst ex
  cases r1 with
  | cons r rr =>
    cases rr
    cases r
    obtain ⟨its, rv, p', _⟩ := I1.tuple hq
    have al : a < s1.heap.objs.size := by obtain ⟨o, ho, _⟩ := id p'; exact Heap.lt_size ho
    refine call_enum1 (begins_tuple a its.toArray) (show s1.heap.IsTuple a its.toArray from p') fun h' he hit hk => wpAny_pyIter_enum he ?_
    have I2 : Inv X pins σ H1 { s1 with heap := h' } := I1.kept (t' := s1.toks) hk
    refine ⟨s1.heap.objs.size + 1, [s1.heap.objs.size + 1, s1.heap.objs.size], _, _, H1, rfl, I2, turn_enumT (a := a) (Nat.ne_of_lt al) (Ne.symm (Nat.ne_of_lt (Nat.lt_succ_of_lt al))) (Nat.succ_ne_self _), ⟨⟨.none, he⟩, _, hit, rfl, rfl⟩, fun b hb => ?_, q⟩
    have hle : s1.heap.objs.size ≤ b := by
      rcases List.mem_cons.mp hb with z | z
      · rw [z]; exact Nat.le_add_right _ _
      · rw [List.mem_singleton.mp z]; exact Nat.le_refl _
    exact I1.fpOk hle (I1.hok.fresh hle)
section
variable {X : Cx} {C : Fx} {tg e : Expr} {p p2 pos pos2 tpos : Pos} {kk : Nat} {elts : List Expr}
end
end DL
namespace DL
open PySem PySem.Spec PyProof.Rows L2
abbrev RF := List PyData → (PyData → Prop) → (Value → Prop) → Prop
def spR (K : PySem.W.Frag) (rf : RF) : Sp := fun vs H Q E => ∃ N ds k ke, (∀ a ∈ N, H a ≠ none) ∧ DqAll K (hide H N) vs ds ∧ rf ds k ke ∧
  (∀ d v H', k d → Same H H' → Dq K (hide H' N) v d → Q v H') ∧ ∀ cls H', ke cls → Same H H' → E cls none H'
variable {X : Cx} {C : Fx}
structure DfR (P : Program) (w : World) (K : PySem.W.Frag) (mg : Str → Option Value) (base : Heap) (x : Str) (ps : List Str) (k : Nat) (rf : RF) : Prop where
  ex : ∃ f fd, FnOk P w K mg base (L2.CX P w) k f fd ps (spR K rf) ∧ mg x = some (.ref f) ∧ PySem.W.keepIn K (.ref f) = true ∧ Binds K fd ps []
inductive DHs (X : Cx) (C : Fx) : List ExceptHandler → List (Value × WS) → Prop
  | nil : DHs X C [] []
  | cons {x : Str} {c : Value} {w : WS} {b₀ : Stmt} {suite : List Stmt} {np pos' : Pos} {hds : List ExceptHandler} {l : List (Value × WS)} (hc : Names X x c)
      (hsu : ∀ (a : Addr) (oe : Obj) (pn : List (Addr × Obj)), PDSs (X.suite a ((a, oe) :: pn)) C (b₀ :: suite) w) (r : DHs X C hds l) : DHs X C (.ExceptHandler (some (.Name x np)) none (b₀ :: suite) pos' :: hds) ((c, w) :: l)
theorem DHs.ok {hds : List ExceptHandler} {l : List (Value × WS)} (h : DHs X C hds l) : HdsOk X hds (l.map fun q => (q.1, fun _ _ _ => tDS X.K C q.2)) := by
  induction h with
  | nil => exact .nil
  | cons hc hsu r ih => exact .cons hc (fun a oe cls d pn _ _ => hsu a oe pn) ih
end DL
namespace DL
open PySem PySem.Spec PyProof.Rows L2
variable {X : Cx} {C : Fx}
end DL
namespace DL
open PySem PySem.Spec PyProof.Rows L2
variable {X : Cx} {C : Fx}
end DL
namespace DL
open PySem PySem.Spec PyProof.Rows L2
section
variable {l : Addr} {items : Array Value} {n : Nat} {dd : Option Addr} {sl : Array (Option Value)} {x : Int} {u : Tok}
theorem mul_same (c0 : (decide (x < -(2 ^ 63)) || decide (x ≥ 2 ^ 63)) = false) (c1 : (items.isEmpty || x == 1) = true) :
    Meets (Builtin.«tuple.__mul__» ⟨[.ref l, .int x u], []⟩) (fun _ R s => s.heap.get? l = some { cls := .type "tuple", dict := dd, data := .seq items n, slots := sl } ∧ R (.ok (.ret (.ref l))) s) :=
  .of_wp fun prog w A R s ⟨hl, h⟩ => by
    obtain ⟨hp, g, d, tk, os⟩ := s
    have f1 := AutoSeq1.idx_int
    wp_walk using wpAny_loadPart' hl
    refine wpAny_ite_false (decide_eq_false (by rw [c0]; exact Bool.false_ne_true)) ?_
    wp_walk using wpAny_loadPart' hl
    exact ⟨_, rfl, h⟩
theorem mul_none (c0 : (decide (x < -(2 ^ 63)) || decide (x ≥ 2 ^ 63)) = false) (c1 : (items.isEmpty || x == 1) = false) (c2 : (decide (x ≤ 0) || items.isEmpty) = true) :
    Meets (Builtin.«tuple.__mul__» ⟨[.ref l, .int x u], []⟩) (fun _ R s => s.heap.get? l = some { cls := .type "tuple", dict := dd, data := .seq items n, slots := sl } ∧
      R (.ok (.ret (.ref s.heap.objs.size))) { s with heap := s.heap.push { cls := .type "tuple", data := .seq #[] }, toks := s.toks }) :=
  .of_wp fun prog w A R s ⟨hl, h⟩ => by
    obtain ⟨hp, g, d, tk, os⟩ := s
    have f1 := AutoSeq1.idx_int
    wp_walk using wpAny_loadPart' hl
    refine wpAny_ite_false (decide_eq_false (by rw [c0]; exact Bool.false_ne_true)) ?_
    wp_walk using wpAny_loadPart' hl
    exact ⟨_, rfl, h⟩
end
def rMulT (K : PySem.W.Frag) : R2 := fun x y H Q => ∃ l k xs, x = .ref l ∧ y = .int k ∧ SqT K H l xs ∧ -1000000 ≤ k ∧ k ≤ 1000 ∧ xs.length ≤ 1000 ∧ (xs = [] ∨ k = 1 → Q (.ref l) H) ∧
  (xs ≠ [] → k ≠ 1 → ∀ p, H p = none → Q (.ref p) (upd H p (.tup (List.replicate k.toNat xs).flatten)))
theorem op_mulT {X : Cx} : OpR X (binaryOp .Mult) (rMulT X.K) := by
  intro pins s σ H x y v u Q I rx ry h
  obtain ⟨l, k, xs, rfl, rfl, hT, h1, h2, hz, q1, q2⟩ := h
  by_cases c : xs ≠ [] ∧ 2 ≤ k
  · exact op_repT pins s σ H _ _ v u Q I rx ry ⟨l, k, xs, rfl, rfl, hT, c.1, c.2, h2, hz, q2 c.1 (by omega)⟩
  cases rx
  obtain ⟨t, rfl⟩ := ry
  obtain ⟨its, r, ⟨⟨cls, dd, data, sl⟩, ho, hc, n, hd⟩, hs⟩ := I.tuple hT
  simp only at hc hd
  subst hc hd
  have hle : its.length = xs.length := r.length.symm
  have c0 : (decide (k < -(2 ^ 63)) || decide (k ≥ 2 ^ 63)) = false := by
    rw [decide_eq_false (by omega), decide_eq_false (by omega)] <;> rfl
  have hi : its.toArray.isEmpty = xs.isEmpty := by
    cases its with
    | nil =>
      cases xs with
      | nil => rfl
      | cons a b => simp at hle
    | cons a b =>
      cases xs with
      | nil => simp at hle
      | cons a b => rfl
  by_cases e : xs = [] ∨ k = 1
  · have c1 : (its.toArray.isEmpty || k == 1) = true := by
      rw [hi]
      rcases e with e | e
      · rw [e]; rfl
      · rw [e]; simp
    refine wpAny_binaryOp_repeat_ref (T := "tuple") (U := "int") (by decide) ⟨_, ho, rfl⟩ (fun s' => typeIs_int s' k t) noFill_tuple_mul F.fills_int_mul F.slot_int_rmul repeat_tuple F.slot_int_index.lookup
      (call_meets F.slot_int_rmul (typeIs_int s k t) F.entry_int_rmul (F.args_int_rmul_2 _ _) (int_rmul_tuple k t l its.toArray n dd sl)
        ⟨ho, rfl, ⟨_, ho, rfl⟩, call_meets F.slot_tuple_mul ⟨_, ho, rfl⟩ F.entry_tuple_mul (F.args_tuple_mul_2 _ _) (mul_same c0 c1) ⟨ho, ?_⟩⟩)
    exact ⟨.ref l, H, I, rfl, q1 e⟩
  · have hne : xs ≠ [] := fun z => e (.inl z)
    have hk1 : k ≠ 1 := fun z => e (.inr z)
    have hk0 : k ≤ 0 := by
      by_cases z : 2 ≤ k
      · exact absurd ⟨hne, z⟩ c
      · omega
    have hxe : xs.isEmpty = false := by
      cases xs with
      | nil => exact absurd rfl hne
      | cons a b => rfl
    have c1 : (its.toArray.isEmpty || k == 1) = false := by
      rw [hi, hxe, Bool.false_or]
      exact beq_eq_false_iff_ne.mpr hk1
    have c2 : (decide (k ≤ 0) || its.toArray.isEmpty) = true := by rw [decide_eq_true hk0, Bool.true_or]
    refine wpAny_binaryOp_repeat_ref (T := "tuple") (U := "int") (by decide) ⟨_, ho, rfl⟩ (fun s' => typeIs_int s' k t) noFill_tuple_mul F.fills_int_mul F.slot_int_rmul repeat_tuple F.slot_int_index.lookup
      (call_meets F.slot_int_rmul (typeIs_int s k t) F.entry_int_rmul (F.args_int_rmul_2 _ _) (int_rmul_tuple k t l its.toArray n dd sl)
        ⟨ho, rfl, ⟨_, ho, rfl⟩, call_meets F.slot_tuple_mul ⟨_, ho, rfl⟩ F.entry_tuple_mul (F.args_tuple_mul_2 _ _) (mul_none c0 c1 c2) ⟨ho, ?_⟩⟩)
    have q3 := q2 hne hk1
    rw [show k.toNat = 0 by omega] at q3
    refine ⟨.ref s.heap.objs.size, _, I.laid (t' := s.toks) (o := .tup []) (fun b ob q => Heap.get?_push_of_some _ q) (Nat.le_refl _) ?_, rfl, q3 _ (I.hok.fresh (Nat.le_refl _))⟩
    exact ⟨Nat.zero_le _, [], .nil, IsTup.new _ _⟩
end DL
set_option maxHeartbeats 2000000
namespace EV
open PySem PySem.Spec PyProof.Rows L2
section
variable {X : Cx} {B : Bx} {G : GC} {a b c e : Expr} {es : List Expr} {fa fb fc f : FE} {fs : FA} {pos p : Pos} {j : Nat}
theorem rw_int {m : Nat → Addr} {n : Nat} {H : Hp} {i : Int} {v : V} (r : RW G m n H (.int i) v) : v = .int i := by cases r; rfl
theorem rw_str {m : Nat → Addr} {n : Nat} {H : Hp} {x : Str} {v : V} (r : RW G m n H (.str x) v) : v = .str x := by cases r; rfl
theorem rw_non {m : Nat → Addr} {n : Nat} {H : Hp} {v : V} (r : RW G m n H .non v) : v = .non := by cases r; rfl
theorem rw_tup {m : Nat → Addr} {n : Nat} {H : Hp} {ws : List W} {v : V} (r : RW G m n H (.tup ws) v) : ∃ a xs, v = .ref a ∧ SqT G.K H a xs ∧ RWs G m n H ws xs := by cases r with | tup s q => exact ⟨_, _, rfl, s, q⟩
theorem rw_ref {m : Nat → Addr} {n i : Nat} {H : Hp} {v : V} (r : RW G m n H (.ref i) v) : v = .ref (m i) ∧ i < n := by cases r with | ref _ h => exact ⟨rfl, h⟩
theorem rws_nil {m : Nat → Addr} {n : Nat} {H : Hp} {vs : List V} (r : RWs G m n H [] vs) : vs = [] := by cases r; rfl
theorem rws_one {m : Nat → Addr} {n : Nat} {H : Hp} {w : W} {vs : List V} (r : RWs G m n H [w] vs) : ∃ v, vs = [v] ∧ RW G m n H w v := by
  cases r with
  | cons a b => cases b; exact ⟨_, rfl, a⟩
theorem rws_two {m : Nat → Addr} {n : Nat} {H : Hp} {w u : W} {vs : List V} (r : RWs G m n H [w, u] vs) : ∃ v x, vs = [v, x] ∧ RW G m n H w v ∧ RW G m n H u x := by
  cases r with
  | cons a b =>
    obtain ⟨x, rfl, q⟩ := rws_one b
    exact ⟨_, x, rfl, a, q⟩
def gI (c : Int → Int → Bool) (g : Int → Int → Int) : W → W → Hpe → Res W
  | .int i, .int j, h => bif c i j then .ok (.int (g i j)) h else .no
  | _, _, _ => .no
def gI0 (g : Int → Int → Int) : W → W → Hpe → Res W
  | .int i, .int j, h => .ok (.int (g i j)) h
  | _, _, _ => .no
def gB0 (g : Int → Int → Bool) : W → W → Hpe → Res W
  | .int i, .int j, h => .ok (.bl (g i j)) h
  | _, _, _ => .no
theorem os_I {C : Int → Int → Prop} {c : Int → Int → Bool} {g : Int → Int → Int} (hc : ∀ i j, c i j = true → C i j) : OpS G (rI C fun i j => .int (g i j)) (gI c g) := by
  intro cl Wx m h H a b x y Q rh ra rb o
  cases a <;> try exact o.elim
  cases b <;> try exact o.elim
  rename_i i j
  obtain rfl := rw_int ra
  obtain rfl := rw_int rb
  simp only [gI] at o
  cases q : c i j with
  | false => rw [q] at o; exact o.elim
  | true => rw [q] at o; exact ⟨i, j, rfl, rfl, hc i j q, o m H _ rh Mv.refl (.int _)⟩
theorem os_I0 {g : Int → Int → Int} : OpS G (rI0 fun i j => .int (g i j)) (gI0 g) := by
  intro cl Wx m h H a b x y Q rh ra rb o
  cases a <;> try exact o.elim
  cases b <;> try exact o.elim
  rename_i i j
  obtain rfl := rw_int ra
  obtain rfl := rw_int rb
  exact ⟨i, j, rfl, rfl, o m H _ rh Mv.refl (.int _)⟩
theorem os_B0 {g : Int → Int → Bool} : OpS G (rI0 fun i j => .bl (g i j)) (gB0 g) := by
  intro cl Wx m h H a b x y Q rh ra rb o
  cases a <;> try exact o.elim
  cases b <;> try exact o.elim
  rename_i i j
  obtain rfl := rw_int ra
  obtain rfl := rw_int rb
  exact ⟨i, j, rfl, rfl, o m H _ rh Mv.refl (.bl _)⟩
def gAdd : W → W → Hpe → Res W
  | .int i, .int j, h => .ok (.int (i + j)) h
  | .tup xs, .tup ys, h => bif line (xs.length + ys.length) then .ok (.tup (xs ++ ys)) h else .no
  | .str x, .str y, h => bif line (x.length + y.length) then .ok (.str (x ++ y)) h else .no
  | .ref i, .ref j, h => match rdL h i, rdL h j with
    | some xs, some ys => bif line (xs.length + ys.length) then h.al (.lst (xs ++ ys)) else .no
    | _, _ => .no
  | _, _, _ => .no
abbrev rAddE (K : PySem.W.Frag) : R2 := fun x y H Q => (rI0 fun i j => .int (i + j)) x y H Q ∨ ((rCatA K x y H Q ∨ DL.rCatL K x y H Q) ∨ (∃ i j, x = V.str i ∧ y = V.str j ∧ i.length + j.length ≤ sizeLine ∧ Q (.str (i ++ j)) H))
theorem op_addE : OpR X (binaryOp .Add) (rAddE X.K) := OpR.or op_add (OpR.or (OpR.or op_catA DL.op_catL) op_add_str)
theorem os_add : OpS G (rAddE G.K) gAdd := by
  intro cl Wx m h H a b x y Q rh ra rb o
  cases a with
  | int i =>
    cases b <;> try exact o.elim
    rename_i j
    obtain rfl := rw_int ra
    obtain rfl := rw_int rb
    exact .inl ⟨i, j, rfl, rfl, o m H _ rh Mv.refl (.int _)⟩
  | tup xs =>
    cases b <;> try exact o.elim
    rename_i ys
    obtain ⟨a, vs, rfl, s1, q1⟩ := rw_tup ra
    obtain ⟨b, us, rfl, s2, q2⟩ := rw_tup rb
    simp only [gAdd] at o
    cases c : line (xs.length + ys.length) with
    | false => rw [c] at o; exact o.elim
    | true =>
      rw [c] at o
      have o : Out G cl (RW G) Wx m h H (.ok (.tup (xs ++ ys)) h) Q := o
      refine .inr (.inl (.inl ⟨a, b, vs, us, rfl, rfl, s1, s2, by rw [← q1.len, ← q2.len]; exact line_le c, fun e => ?_, fun e1 e => ?_, fun e1 e p hp => tup_ok rh o (q1.app q2) p hp⟩))
      · subst e
        have := q1.len
        cases xs with
        | nil => exact o m H _ rh Mv.refl (.tup s2 q2)
        | cons _ _ => simp at this
      · subst e
        have := q2.len
        cases ys with
        | nil => exact o m H _ rh Mv.refl (.tup s1 (by rw [List.append_nil]; exact q1))
        | cons _ _ => simp at this
  | str x =>
    cases b <;> try exact o.elim
    rename_i y
    obtain rfl := rw_str ra
    obtain rfl := rw_str rb
    simp only [gAdd] at o
    cases c : line (x.length + y.length) with
    | false => rw [c] at o; exact o.elim
    | true => rw [c] at o; exact .inr (.inr ⟨x, y, rfl, rfl, line_le c, o m H _ rh Mv.refl (.str _)⟩)
  | ref i =>
    cases b <;> try exact o.elim
    rename_i j
    obtain ⟨rfl, hi⟩ := rw_ref ra
    obtain ⟨rfl, hj⟩ := rw_ref rb
    simp only [gAdd] at o
    split at o
    · rename_i xs ys e1 e2
      obtain ⟨vs, s1, q1⟩ := rh.rd hi e1
      obtain ⟨us, s2, q2⟩ := rh.rd hj e2
      cases c : line (xs.length + ys.length) with
      | false => rw [c] at o; exact o.elim
      | true => rw [c] at o; exact .inr (.inl (.inr ⟨_, _, vs, us, rfl, rfl, s1, s2, by rw [← q1.len, ← q2.len]; exact line_le c, al_ok rh o (.lst (q1.app q2))⟩))
    · exact o.elim
  | _ => exact o.elim
theorem se_add (hK : X.K = B.G.K) (ha : SE X B a fa) (hb : SE X B b fb) : SE X B (.BinOp a .Add b pos) (e2 gAdd fa fb) := se_op (r := rAddE B.G.K) (by rw [← hK]; exact op_addE) os_add ha hb
theorem se_sub (ha : SE X B a fa) (hb : SE X B b fb) : SE X B (.BinOp a .Sub b pos) (e2 (gI0 fun i j => i - j) fa fb) := se_op op_sub os_I0 ha hb
def cMul (i j : Int) : Bool := (decide (-18446744073709551616 < i) && decide (i < 18446744073709551616)) || (decide (-18446744073709551616 < j) && decide (j < 18446744073709551616))
theorem cMul_ok (i j : Int) (h : cMul i j = true) : CMul i j := by
  simp only [cMul, Bool.or_eq_true, Bool.and_eq_true, decide_eq_true_eq] at h
  rcases h with h | h
  · exact .inl ⟨by omega, by omega⟩
  · exact .inr ⟨by omega, by omega⟩
theorem se_mod (ha : SE X B a fa) (hb : SE X B b fb) : SE X B (.BinOp a .Mod b pos) (e2 (gI (fun _ j => decide (0 < j)) fun i j => i % j) fa fb) := se_op op_mod (os_I fun _ j h => of_decide_eq_true h) ha hb
def cDiv (_ j : Int) : Bool := decide (0 < j) && decide (j < 1073741824)
theorem se_div (ha : SE X B a fa) (hb : SE X B b fb) : SE X B (.BinOp a .FloorDiv b pos) (e2 (gI cDiv fun i j => i / j) fa fb) := se_op op_fdiv (os_I fun i j h => by
  simp only [cDiv, Bool.and_eq_true, decide_eq_true_eq] at h
  exact h) ha hb
def cPow (i j : Int) : Bool := decide (0 ≤ j) && decide (j ≤ 1000) && decide (i.natAbs < 18446744073709551616)
theorem se_pow (ha : SE X B a fa) (hb : SE X B b fb) : SE X B (.BinOp a .Pow b pos) (e2 (gI cPow fun i j => i ^ j.toNat) fa fb) := se_op op_pow (os_I fun i j h => by
  simp only [cPow, Bool.and_eq_true, decide_eq_true_eq] at h
  exact ⟨h.1.1, by omega, h.2⟩) ha hb
theorem se_gt (ha : SE X B a fa) (hb : SE X B b fb) : SE X B (.Compare a [.Gt] [b] pos) (e2 (gB0 fun i j => decide (j < i)) fa fb) := se_cmp op_gt os_B0 ha hb (nomark _)
theorem se_ge (ha : SE X B a fa) (hb : SE X B b fb) : SE X B (.Compare a [.GtE] [b] pos) (e2 (gB0 fun i j => decide (j ≤ i)) fa fb) := se_cmp op_ge os_B0 ha hb (nomark _)
theorem st_lt (ha : SE X B a fa) (hb : SE X B b fb) : ST X B (.Compare a [.Lt] [b] pos) (asB (e2 (gB0 fun i j => decide (i < j)) fa fb)) := st_cmp op_lt os_B0 ha hb (nomark _)
theorem st_gt (ha : SE X B a fa) (hb : SE X B b fb) : ST X B (.Compare a [.Gt] [b] pos) (asB (e2 (gB0 fun i j => decide (j < i)) fa fb)) := st_cmp op_gt os_B0 ha hb (nomark _)
def toD : Nat → Hpe → W → Option PyData
  | 0, _, _ => none
  | k + 1, h, w => match w with
    | .non => some .none
    | .bl b => some (.bool b)
    | .int i => some (.int i)
    | .str x => some (.str x)
    | .tup ws => match mapO (toD k h) ws with
      | none => none
      | some ds => some (.tuple ds)
    | .ref i => match rdL h i with
      | none => none
      | some ws => match mapO (toD k h) ws with
        | none => none
        | some ds => some (.list ds)
    | .df _ => none
    | .clo _ _ => none
theorem mapO_dp {m : Nat → Addr} {h : Hpe} {H : Hp} {f : W → Option PyData} (hf : ∀ w v d, RW G m h.nx H w v → f w = some d → Dp G.K H v d) : ∀ {ws : List W} {vs : List V} {ds : List PyData}, RWs G m h.nx H ws vs → mapO f ws = some ds → DpAll G.K H vs ds
  | _, _, _, .nil, e => by cases e; exact .nil
  | w :: ws, v :: vs, ds, .cons a b, e => by
    simp only [mapO] at e
    split at e
    · cases e
    · rename_i y ey
      split at e
      · cases e
      · rename_i ys eys
        cases e
        exact .cons (hf w v y a ey) (mapO_dp hf b eys)
theorem toD_dp {m : Nat → Addr} {h : Hpe} {H : Hp} (rh : RH G m h H) : ∀ (k : Nat) (w : W) (v : V) (d : PyData), RW G m h.nx H w v → toD k h w = some d → Dp G.K H v d
  | 0, _, _, _, _, e => by cases e
  | k + 1, w, v, d, r, e => by
    cases w with
    | non => cases e; obtain rfl := rw_non r; exact .non
    | bl b => cases e; obtain rfl := asB_ok r; exact .bl b
    | int i => cases e; obtain rfl := rw_int r; exact .int i
    | str x => cases e; obtain rfl := rw_str r; exact .str x
    | df _ => cases e
    | clo _ _ => cases e
    | tup ws =>
      simp only [toD] at e
      split at e
      · cases e
      · rename_i ds q
        cases e
        obtain ⟨a, xs, rfl, s, rs⟩ := rw_tup r
        exact .tup s (mapO_dp (toD_dp rh k) rs q)
    | ref i =>
      simp only [toD] at e
      split at e
      · cases e
      · rename_i ws q0
        split at e
        · cases e
        · rename_i ds q
          cases e
          obtain ⟨rfl, hi⟩ := rw_ref r
          obtain ⟨xs, s, rs⟩ := rh.rd hi q0
          exact .lst s (mapO_dp (toD_dp rh k) rs q)
def gEq (neg : Bool) : W → W → Hpe → Res W := fun a b h => match toD 70 h a, toD 70 h b with
  | some d, some e => bif SeqAt.shaped d && SeqAt.shaped e then .ok (.bl (neg != PyData.eqv d e)) h else .no
  | _, _ => .no
theorem os_eq : OpS G (rEqD G.K) (gEq false) := by
  intro cl Wx m h H a b x y Q rh ra rb o
  simp only [gEq] at o
  split at o
  · rename_i d e e1 e2
    cases c : SeqAt.shaped d && SeqAt.shaped e with
    | false => rw [c] at o; exact o.elim
    | true =>
      rw [c] at o
      have c' := (Bool.and_eq_true _ _).mp c
      refine ⟨d, e, toD_dp rh 70 a x d ra e1, toD_dp rh 70 b y e rb e2, c'.1, c'.2, ?_⟩
      have := o m H _ rh Mv.refl (.bl _)
      simpa using this
  · exact o.elim
theorem os_ne : OpS G (rNeD G.K) (gEq true) := by
  intro cl Wx m h H a b x y Q rh ra rb o
  simp only [gEq] at o
  split at o
  · rename_i d e e1 e2
    cases c : SeqAt.shaped d && SeqAt.shaped e with
    | false => rw [c] at o; exact o.elim
    | true =>
      rw [c] at o
      have c' := (Bool.and_eq_true _ _).mp c
      refine ⟨d, e, toD_dp rh 70 a x d ra e1, toD_dp rh 70 b y e rb e2, c'.1, c'.2, ?_⟩
      have := o m H _ rh Mv.refl (.bl _)
      simpa using this
  · exact o.elim
theorem se_eq (hK : X.K = B.G.K) (hu : X.A.units + 64 < cLine) (ha : SE X B a fa) (hb : SE X B b fb) : SE X B (.Compare a [.Eq] [b] pos) (e2 (gEq false) fa fb) := se_cmp (r := rEqD B.G.K) (by rw [← hK]; exact op_eqD hu) os_eq ha hb (nomark _)
theorem st_eq (hK : X.K = B.G.K) (hu : X.A.units + 64 < cLine) (ha : SE X B a fa) (hb : SE X B b fb) : ST X B (.Compare a [.Eq] [b] pos) (asB (e2 (gEq false) fa fb)) := st_cmp (r := rEqD B.G.K) (by rw [← hK]; exact op_eqD hu) os_eq ha hb (nomark _)
theorem st_ne (hK : X.K = B.G.K) (hu : X.A.units + 64 < cLine) (ha : SE X B a fa) (hb : SE X B b fb) : ST X B (.Compare a [.NotEq] [b] pos) (asB (e2 (gEq true) fa fb)) := st_cmp (r := rNeD B.G.K) (by rw [← hK]; exact op_neD hu) os_ne ha hb (nomark _)
def gIsN (neg : Bool) : W → W → Hpe → Res W := fun a b h => match b with
  | .non => .ok (.bl (neg != match a with | .non => true | _ => false)) h
  | _ => .no
theorem os_isN : OpS G (fun x y H Q => y = V.non ∧ Q (.bl (decide (x = .non))) H) (gIsN false) := by
  intro cl Wx m h H a b x y Q rh ra rb o
  cases b <;> try exact o.elim
  refine ⟨rw_non rb, ?_⟩
  have := o m H _ rh Mv.refl (.bl _)
  cases ra <;> simpa using this
theorem se_isN (ha : SE X B a fa) (hb : SE X B b fb) : SE X B (.Compare a [.Is] [b] pos) (e2 (gIsN false) fa fb) := se_cmp op_isN os_isN ha hb (nomark _)
theorem st_isN (ha : SE X B a fa) (hb : SE X B b fb) : ST X B (.Compare a [.Is] [b] pos) (asB (e2 (gIsN false) fa fb)) := st_cmp op_isN os_isN ha hb (nomark _)
def gIx : W → W → Hpe → Res W
  | .tup ws, .int i, h => match atI ws i with
    | some w => .ok w h
    | none => .no
  | .ref n, .int i, h => match rdL h n with
    | some ws => match atI ws i with
      | some w => .ok w h
      | none => .no
    | none => .no
  | _, _, _ => .no
theorem atI_rw {m : Nat → Addr} {n : Nat} {H : Hp} {ws : List W} {vs : List V} {i : Int} {w : W} (r : RWs G m n H ws vs) (e : atI ws i = some w) : ∃ v, atI vs i = some v ∧ RW G m n H w v := by
  unfold atI at e ⊢
  rw [← r.len]
  cases q : ixN ws.length i with
  | none => rw [q] at e; cases e
  | some j =>
    rw [q] at e
    exact r.get (i := j) e
theorem os_ix : OpS G (rIx G.K) gIx := by
  intro cl Wx m h H a b x y Q rh ra rb o
  cases a <;> try exact o.elim
  · rename_i ws
    cases b <;> try exact o.elim
    rename_i i
    obtain rfl := rw_int rb
    obtain ⟨a, vs, rfl, s, q⟩ := rw_tup ra
    simp only [gIx] at o
    split at o
    · rename_i w e
      obtain ⟨v, e1, r⟩ := atI_rw q e
      exact .inr (.inl ⟨a, vs, i, v, rfl, rfl, s, e1, o m H v rh Mv.refl r⟩)
    · exact o.elim
  · rename_i n
    cases b <;> try exact o.elim
    rename_i i
    obtain rfl := rw_int rb
    obtain ⟨rfl, hn⟩ := rw_ref ra
    simp only [gIx] at o
    split at o
    · rename_i ws e0
      obtain ⟨vs, s, q⟩ := rh.rd hn e0
      split at o
      · rename_i w e
        obtain ⟨v, e1, r⟩ := atI_rw q e
        exact .inl ⟨_, vs, i, v, rfl, rfl, s, e1, o m H v rh Mv.refl r⟩
      · exact o.elim
    · exact o.elim
abbrev FO := Rho → Hpe → Res (Option Int)
abbrev RO' : (Nat → Addr) → Nat → Hp → Option Int → Option Int → Prop := fun _ _ _ a b => a = b
def tO (B : Bx) (f : FO) : TO := fun σ H Q => ∃ m h ρ, SS B.G B.cf m h ρ σ H ∧ Out B.G B.cl RO' (fun c d H' => B.W c d σ H') m h H (f ρ h) Q
def SO (X : Cx) (B : Bx) (e : Option Expr) (f : FO) : Prop := PO X e (tO B f)
theorem po_imp {e : Option Expr} {t t' : TO} (h : PO X e t) (i : ∀ σ H Q, t' σ H Q → t σ H Q) : PO X e t' := ⟨fun pins s σ H Q I q => h.run pins s σ H Q I (i σ H Q q)⟩
def oS (f : FE) : FO := fun ρ h => (f ρ h).bind fun w h1 => match w with
  | .int i => .ok (some i) h1
  | _ => .no
def oN : FO := fun _ h => .ok none h
theorem so_some (h : SE X B e f) : SO X B (some e) (oS f) := po_imp (po_some h) fun σ H Q ⟨m, h, ρ, s, o⟩ => ⟨m, h, ρ, s, (Out.bind s.rh o).mono fun v H1 ⟨w, m1, h1, r1, v1, q1, o1⟩ => by
  cases w <;> try exact o1.elim
  rename_i i
  obtain rfl := rw_int q1
  exact ⟨i, rfl, o1 m1 H1 _ r1 Mv.refl rfl⟩⟩
theorem so_none : SO X B none oN := po_imp po_none fun σ H Q ⟨m, h, ρ, s, o⟩ => o m H _ s.rh Mv.refl rfl
def cutW (ws : List W) (lo hi : Option Int) : List W := (ws.drop (HT.sIx ws.length 0 lo)).take (HT.sIx ws.length ws.length hi - HT.sIx ws.length 0 lo)
theorem cut_rw {m : Nat → Addr} {n : Nat} {H : Hp} {ws : List W} {vs : List V} (r : RWs G m n H ws vs) (lo hi : Option Int) : RWs G m n H (cutW ws lo hi) (cutV vs lo hi) := by
  unfold cutW cutV
  rw [← r.len]
  exact (r.drop _).take _
def eSl (f : FE) (fl fh : FO) : FE := fun ρ h => (f ρ h).bind fun w h1 => (fl ρ h1).bind fun lo h2 => (fh ρ h2).bind fun hi h3 => match w with
  | .tup ws => .ok (.tup (cutW ws lo hi)) h3
  | .ref n => match rdL h3 n with
    | some ws => h3.al (.lst (cutW ws lo hi))
    | none => .no
  | _ => .no
theorem cut_whole {α : Type} {ws : List W} {lo hi : Option Int} (h : HT.sIx ws.length 0 lo = 0 ∧ HT.sIx ws.length ws.length hi = ws.length) : cutW ws lo hi = ws := by
  unfold cutW
  rw [h.1, h.2, List.drop_zero, Nat.sub_zero, List.take_length]
theorem se_sl (hK : X.K = B.G.K) {lo hi : Option Expr} {p2 : Pos} {fl fh : FO} (he : SE X B e f) (hl : SO X B lo fl) (hh : SO X B hi fh) : SE X B (.Subscript e (.Slice lo hi none p2) pos) (eSl f fl fh) :=
  pe_imp (pe_slice (r := fun x lo hi H Q => rSlA B.G.K x lo hi H Q ∨ rSlL B.G.K x lo hi H Q) (by rw [← hK]; exact DL.sl_D) he hl hh) fun σ H Q ⟨m, h, ρ, s, o⟩ =>
    ⟨m, h, ρ, s, (Out.bind s.rh o).mono fun v H1 ⟨w, m1, h1, r1, v1, q1, o1⟩ => ⟨m1, h1, ρ, s.mv r1 v1, (Out.bind r1 o1).mono fun lo H2 ⟨lo', m2, h2, r2, v2, q2, o2⟩ => ⟨m2, h2, ρ, (s.mv r1 v1).mv r2 v2, (Out.bind r2 o2).mono fun hi H3 ⟨hi', m3, h3, r3, v3, q3, o3⟩ => by
      subst q2; subst q3
      have q1' := (q1.mono v2.old v2.le (v2.tupk r1)).mono v3.old v3.le (v3.tupk r2)
      cases w <;> try exact o3.elim
      · rename_i ws
        obtain ⟨a, vs, rfl, sq, q⟩ := rw_tup q1'
        refine .inl ⟨a, vs, rfl, sq, fun z => ?_, fun _ p hp => tup_ok r3 o3 (cut_rw q _ _) p hp⟩
        rw [← q.len] at z
        exact o3 m3 H3 _ r3 Mv.refl (by rw [cut_whole (α := W) z]; exact .tup sq q)
      · rename_i n
        obtain ⟨rfl, hn⟩ := rw_ref q1'
        simp only at o3
        split at o3
        · rename_i ws e0
          obtain ⟨vs, sq, q⟩ := r3.rd hn e0
          exact .inr ⟨_, vs, rfl, sq, al_ok r3 o3 (.lst (cut_rw q _ _))⟩
        · exact o3.elim⟩⟩⟩
end
end EV
namespace EV
open PySem PySem.Spec PyProof.Rows L2
inductive RS where
  | nx (ρ : Rho) (h : Hpe)
  | rt (w : W) (h : Hpe)
  | bk (ρ : Rho) (h : Hpe)
  | ct (ρ : Rho) (h : Hpe)
  | ex (x : Exc) (ρ : Rho) (h : Hpe)
  | no
abbrev FS := Rho → Hpe → RS
def RS.seq : RS → (Rho → Hpe → RS) → RS
  | .nx ρ h, k => k ρ h
  | r, _ => r
def bindS {α : Type} (r : Res α) (ρ : Rho) (k : α → Hpe → RS) : RS := match r with
  | .ok a h => k a h
  | .ex x h => .ex x ρ h
  | .no => .no
def OutS (B : Bx) (m : Nat → Addr) (h : Hpe) (H : Hp) (D : Ends) : RS → Prop
  | .nx ρ' h' => ∀ m' H' σ', SS B.G B.cf m' h' ρ' σ' H' → Mv m h.nx H m' h'.nx H' → D.nx σ' H'
  | .rt w h' => ∀ m' H' v, RH B.G m' h' H' → Mv m h.nx H m' h'.nx H' → RW B.G m' h'.nx H' w v → D.rt v H'
  | .bk ρ' h' => ∀ m' H' σ', SS B.G B.cf m' h' ρ' σ' H' → Mv m h.nx H m' h'.nx H' → D.bk σ' H'
  | .ct ρ' h' => ∀ m' H' σ', SS B.G B.cf m' h' ρ' σ' H' → Mv m h.nx H m' h'.nx H' → D.ct σ' H'
  | .ex x ρ' h' => ∀ m' H' σ' c d, SS B.G B.cf m' h' ρ' σ' H' → Mv m h.nx H m' h'.nx H' → ExR B.G B.cl m' h'.nx H' x c d → B.W c d σ' H'
  | .no => False
section
variable {α β : Type} {B : Bx} {R : (Nat → Addr) → Nat → Hp → α → β → Prop} {m m1 : Nat → Addr} {h h1 : Hpe} {H H1 : Hp} {D D' : Ends} {ρ : Rho} {σ : L2.St}
theorem OutS.shift {r : RS} (rh : RH B.G m h H) (rh1 : RH B.G m1 h1 H1) (mv : Mv m h.nx H m1 h1.nx H1) (o : OutS B m h H D r) : OutS B m1 h1 H1 D r := by
  have t : ∀ {m' n' H'}, Mv m1 h1.nx H1 m' n' H' → Mv m h.nx H m' n' H' := fun b => mv.trans (rh1.mv_ne mv) b
  cases r with
  | nx ρ' h' => exact fun m' H' σ' a b => o m' H' σ' a (t b)
  | rt w h' => exact fun m' H' v a b c => o m' H' v a (t b) c
  | bk ρ' h' => exact fun m' H' σ' a b => o m' H' σ' a (t b)
  | ct ρ' h' => exact fun m' H' σ' a b => o m' H' σ' a (t b)
  | ex x ρ' h' => exact fun m' H' σ' c d a b e => o m' H' σ' c d a (t b) e
  | no => exact o
theorem OutS.mono {r : RS} (o : OutS B m h H D r) (f1 : ∀ σ H, D.nx σ H → D'.nx σ H) (f2 : ∀ v H, D.rt v H → D'.rt v H) (f3 : ∀ σ H, D.bk σ H → D'.bk σ H) (f4 : ∀ σ H, D.ct σ H → D'.ct σ H) : OutS B m h H D' r := by
  cases r with
  | nx ρ' h' => exact fun m' H' σ' a b => f1 _ _ (o m' H' σ' a b)
  | rt w h' => exact fun m' H' v a b c => f2 _ _ (o m' H' v a b c)
  | bk ρ' h' => exact fun m' H' σ' a b => f3 _ _ (o m' H' σ' a b)
  | ct ρ' h' => exact fun m' H' σ' a b => f4 _ _ (o m' H' σ' a b)
  | ex x ρ' h' => exact o
  | no => exact o
theorem OutS.bind {r : Res α} {k : α → Hpe → RS} (s : SS B.G B.cf m h ρ σ H) (o : OutS B m h H D (bindS r ρ k)) :
    Out B.G B.cl R (fun c d H' => B.W c d σ H') m h H r fun v H1 => ∃ a m1 h1, RH B.G m1 h1 H1 ∧ Mv m h.nx H m1 h1.nx H1 ∧ R m1 h1.nx H1 a v ∧ OutS B m1 h1 H1 D (k a h1) := by
  cases r with
  | ok a h' => exact fun m' H' v a' b c => ⟨a, m', h', a', b, c, OutS.shift s.rh a' b o⟩
  | ex x h' => exact fun m' H' c d a b e => o m' H' σ c d (s.mv a b) b e
  | no => exact o
theorem OutS.seq {r : RS} {k : Rho → Hpe → RS} (s : RH B.G m h H) (o : OutS B m h H D (r.seq k)) :
    OutS B m h H { D with nx := fun σ' H' => ∃ m1 h1 ρ1, SS B.G B.cf m1 h1 ρ1 σ' H' ∧ Mv m h.nx H m1 h1.nx H' ∧ OutS B m1 h1 H' D (k ρ1 h1) } r := by
  cases r with
  | nx ρ' h' => exact fun m' H' σ' a b => ⟨m', h', ρ', a, b, OutS.shift s a.rh b o⟩
  | rt w h' => exact o
  | bk ρ' h' => exact o
  | ct ρ' h' => exact o
  | ex x ρ' h' => exact o
  | no => exact o
end
def tS (B : Bx) (f : FS) : TS := fun D σ H => ∃ m h ρ, SS B.G B.cf m h ρ σ H ∧ OutS B m h H D (f ρ h)
def SSt (X : Cx) (B : Bx) (st : Stmt) (f : FS) : Prop := PS X st (tS B f)
def SSs (X : Cx) (B : Bx) (st : List Stmt) (f : FS) : Prop := PSs X st (tS B f)
theorem ps_imp {X : Cx} {e : Stmt} {t t' : TS} (h : PS X e t) (i : ∀ D σ H, t' D σ H → t D σ H) : PS X e t' := ⟨fun pins s σ H D I q => h.run pins s σ H D I (i D σ H q)⟩
theorem pss_imp {X : Cx} {e : List Stmt} {t t' : TS} (h : PSs X e t) (i : ∀ D σ H, t' D σ H → t D σ H) : PSs X e t' := ⟨fun pins s σ H D I q => h.run pins s σ H D I (i D σ H q)⟩
abbrev FG := W → Rho → Hpe → RS
abbrev FGs := List W → Rho → Hpe → RS
def nxOnly (Q : L2.St → Hp → Prop) : Ends := { nx := Q, rt := fun _ _ => False }
def Oth (vs : List Nat) (σ' σ : L2.St) : Prop := σ'.length = σ.length ∧ ∀ j, j ∉ vs → σ'[j]? = σ[j]?
theorem Oth.refl {vs : List Nat} {σ : L2.St} : Oth vs σ σ := ⟨rfl, fun _ _ => rfl⟩
theorem Oth.set {vs : List Nat} {σ : L2.St} {i : Nat} {x : Option V} (hi : i ∈ vs) : Oth vs (σ.set i x) σ := ⟨List.length_set, fun j hj => List.getElem?_set_ne (fun z : i = j => hj (by rw [← z]; exact hi))⟩
theorem Oth.trans {us vs : List Nat} {σ σ1 σ2 : L2.St} (a : Oth us σ1 σ) (b : Oth vs σ2 σ1) : Oth (us ++ vs) σ2 σ :=
  ⟨b.1.trans a.1, fun j hj => (b.2 j fun z => hj (List.mem_append_right _ z)).trans (a.2 j fun z => hj (List.mem_append_left _ z))⟩
theorem Oth.sub {us vs : List Nat} {σ σ' : L2.St} (a : Oth us σ' σ) (h : ∀ i ∈ us, i ∈ vs) : Oth vs σ' σ := ⟨a.1, fun j hj => a.2 j fun z => hj (h j z)⟩
theorem Oth.wipe {vs : List Nat} {σ σ' : L2.St} (a : Oth vs σ' σ) : wipe σ' vs = wipe σ vs := by
  apply List.ext_getElem?
  intro j
  rw [DL.wipe_at, DL.wipe_at, a.1]
  by_cases c : j ∈ vs
  · by_cases d : j < σ.length
    · rw [if_pos ⟨c, d⟩, if_pos ⟨c, d⟩]
    · rw [if_neg (fun z => d z.2), if_neg (fun z => d z.2), List.getElem?_eq_none_iff.mpr (by rw [a.1]; omega), List.getElem?_eq_none_iff.mpr (by omega)]
  · rw [if_neg (fun z => c z.1), if_neg (fun z => c z.1), a.2 j c]
def tG (B : Bx) (f : FG) (vs : List Nat) : TG := fun v σ H Q => ∃ m h ρ w, SS B.G B.cf m h ρ σ H ∧ RW B.G m h.nx H w v ∧ OutS B m h H (nxOnly fun σ' H' => Oth vs σ' σ → Q σ' H') (f w ρ h)
def tGs (B : Bx) (f : FGs) (vs : List Nat) : TGs := fun us σ H Q => ∃ m h ρ ws, SS B.G B.cf m h ρ σ H ∧ RWs B.G m h.nx H ws us ∧ OutS B m h H (nxOnly fun σ' H' => Oth vs σ' σ → Q σ' H') (f ws ρ h)
def SG (X : Cx) (B : Bx) (e : Expr) (f : FG) (vs : List Nat) : Prop := PG X e (tG B f vs)
def SGs (X : Cx) (B : Bx) (es : List Expr) (f : FGs) (vs : List Nat) : Prop := PGs X es (tGs B f vs)
theorem pg_imp {X : Cx} {e : Expr} {t t' : TG} (h : PG X e t) (i : ∀ v σ H Q, t' v σ H Q → t v σ H Q) : PG X e t' := ⟨fun pins s σ H v u Q I r q => h.run pins s σ H v u Q I r (i v σ H Q q)⟩
theorem pgs_imp {X : Cx} {e : List Expr} {t t' : TGs} (h : PGs X e t) (i : ∀ v σ H Q, t' v σ H Q → t v σ H Q) : PGs X e t' := ⟨fun pins s σ H v u Q I r q => h.run pins s σ H v u Q I r (i v σ H Q q)⟩
section
variable {X : Cx} {B : Bx} {a b c e tg : Expr} {es tgs : List Expr} {st : Stmt} {sts : List Stmt} {fa fb fc f : FE} {ft : FT} {fs : FA} {s1 s2 : FS} {g : FG} {gs : FGs} {pos p : Pos} {j : Nat}
theorem SS.set {G : GC} {cf : CF} {m : Nat → Addr} {h : Hpe} {ρ : Rho} {σ : L2.St} {H : Hp} (s : SS G cf m h ρ σ H) {w : W} {v : V} (r : RW G m h.nx H w v) (i : Nat) : SS G cf m h (ρ.set i (some w)) (σ.set i (some v)) H :=
  ⟨s.rh, by rw [List.length_set, List.length_set]; exact s.len, fun k u e => by
    rw [List.getElem?_set] at e
    by_cases c : i = k
    · rw [if_pos c] at e
      split at e
      · rename_i hk
        cases e
        exact ⟨v, by rw [List.getElem?_set, if_pos c, if_pos (by rw [← s.len]; exact hk)], .rw r⟩
      · cases e
    · rw [if_neg c] at e
      obtain ⟨v', e', r'⟩ := s.sl k u e
      exact ⟨v', by rw [List.getElem?_set, if_neg c]; exact e', r'⟩⟩
def gN (i : Nat) : FG := fun w ρ h => .nx (setR ρ i (some w)) h
theorem sg_n {i : Nat} (h : PG X tg (gName i)) : SG X B tg (gN i) [i] := pg_imp h fun v σ H Q ⟨m, h, ρ, w, s, r, o⟩ => o m H _ (by rw [setR_eq]; exact s.set r i) Mv.refl (.set (List.mem_singleton.mpr rfl))
def gsN : FGs := fun ws ρ h => match ws with
  | [] => .nx ρ h
  | _ => .no
def gsC (g : FG) (gs : FGs) : FGs := fun ws ρ h => match ws with
  | w :: r => (g w ρ h).seq fun ρ' h' => gs r ρ' h'
  | [] => .no
variable {us vs : List Nat}
theorem sgs_nil : SGs X B [] gsN [] := pgs_imp pgs_nil fun v σ H Q ⟨m, h, ρ, ws, s, r, o⟩ => by
  cases ws with
  | nil => cases r; exact ⟨rfl, o m H _ s Mv.refl .refl⟩
  | cons _ _ => exact o.elim
theorem sgs_cons (h1 : SG X B tg g us) (h2 : SGs X B tgs gs vs) (hs : (assignEach (tg :: tgs) X.env).map (·.2) = assign tg X.env :: (assignEach tgs X.env).map (·.2)) : SGs X B (tg :: tgs) (gsC g gs) (us ++ vs) :=
  pgs_imp (pgs_cons h1 h2 hs) fun v σ H Q ⟨m, h, ρ, ws, s, r, o⟩ => by
    cases ws with
    | nil => exact o.elim
    | cons w ws =>
      cases r with
      | @cons _ _ u us ra rb =>
        exact ⟨u, us, rfl, m, h, ρ, w, s, ra, (OutS.seq s.rh o).mono (fun σ' H' ⟨m1, h1, ρ1, s1, v1, o1⟩ oth => ⟨m1, h1, ρ1, ws, s1, rb.mono v1.old v1.le (v1.tupk s.rh), o1.mono (fun σ2 H2 q oth2 => q (oth.trans oth2)) (fun _ _ z => z) (fun _ _ z => z) (fun _ _ z => z)⟩) (fun _ _ z => z) (fun _ _ z => z) (fun _ _ z => z)⟩
theorem beq_eq {a b : Nat} (h : Nat.beq a b = true) : a = b := Nat.eq_of_beq_eq_true h
def sNil : FS := fun ρ h => .nx ρ h
def sSeq (s1 s2 : FS) : FS := fun ρ h => (s1 ρ h).seq s2
theorem ss_nil : SSs X B [] sNil := pss_imp pss_nil fun D σ H ⟨m, h, ρ, s, o⟩ => o m H σ s Mv.refl
theorem ss_cons (h1 : SSt X B st s1) (h2 : SSs X B sts s2) : SSs X B (st :: sts) (sSeq s1 s2) :=
  pss_imp (pss_cons h1 h2) fun D σ H ⟨m, h, ρ, s, o⟩ => ⟨m, h, ρ, s, (OutS.seq s.rh o).mono (fun σ' H' ⟨m1, h1, ρ1, s1, v1, o1⟩ => ⟨m1, h1, ρ1, s1, o1⟩) (fun _ _ z => z) (fun _ _ z => z) (fun _ _ z => z)⟩
def sEx (f : FE) : FS := fun ρ h => bindS (f ρ h) ρ fun _ h1 => .nx ρ h1
theorem ss_expr (he : SE X B e f) (hs : swapsWith e none pos.line X.env = pure false) : SSt X B (.Expr e pos) (sEx f) :=
  ps_imp (ps_expr he hs) fun D σ H ⟨m, h, ρ, s, o⟩ => ⟨m, h, ρ, s, (OutS.bind s o).mono fun v H1 ⟨w, m1, h1, r1, v1, q1, o1⟩ => o1 m1 H1 σ (s.mv r1 v1) Mv.refl⟩
def sRt (f : FE) : FS := fun ρ h => bindS (f ρ h) ρ fun w h1 => .rt w h1
theorem ss_ret (he : SE X B e f) : SSt X B (.Return (some e) pos) (sRt f) :=
  ps_imp (ps_ret he) fun D σ H ⟨m, h, ρ, s, o⟩ => ⟨m, h, ρ, s, (OutS.bind s o).mono fun v H1 ⟨w, m1, h1, r1, v1, q1, o1⟩ => o1 m1 H1 v r1 Mv.refl q1⟩
def sRtN : FS := fun _ h => .rt .non h
def sIf (t : FT) (s1 s2 : FS) : FS := fun ρ h => bindS (t ρ h) ρ fun b h1 => bif b then s1 ρ h1 else s2 ρ h1
theorem ss_if {x y : List Stmt} (hc : ST X B c ft) (ha : SSs X B x s1) (hb : SSs X B y s2) : SSt X B (.If c x y pos) (sIf ft s1 s2) :=
  ps_imp (ps_if hc ha hb) fun D σ H ⟨m, h, ρ, s, o⟩ => ⟨m, h, ρ, s, (OutS.bind s o).mono fun v H1 ⟨w, m1, h1, r1, v1, q1, o1⟩ => by
    subst q1
    cases w with
    | true => rw [if_pos rfl]; exact ⟨m1, h1, ρ, s.mv r1 v1, o1⟩
    | false => rw [if_neg (by decide)]; exact ⟨m1, h1, ρ, s.mv r1 v1, o1⟩⟩
def RS.cl : RS → RS
  | .nx ρ h => .nx ρ h
  | .ex x ρ h => .ex x ρ h
  | _ => .no
theorem OutS.cl {m : Nat → Addr} {h : Hpe} {H : Hp} {D : Ends} {r : RS} (o : OutS B m h H D r.cl) : OutS B m h H (nxOnly D.nx) r := by
  cases r with
  | nx ρ' h' => exact o
  | ex x ρ' h' => exact o
  | no => exact o
  | rt w h' => exact o.elim
  | bk ρ' h' => exact o.elim
  | ct ρ' h' => exact o.elim
def sAs (f : FE) (g : FG) : FS := fun ρ h => bindS (f ρ h) ρ fun w h1 => (g w ρ h1).cl
theorem as_ok {D : Ends} {σ : L2.St} {H : Hp} (i : tS B (sAs f g) D σ H) : tAsg (tE B.G B.cf B.cl B.W f) (tG B g us) D σ H := by
  obtain ⟨m, h, ρ, s, o⟩ := i
  exact ⟨m, h, ρ, s, (OutS.bind s o).mono fun v H1 ⟨w, m1, h1, r1, v1, q1, o1⟩ => ⟨m1, h1, ρ, w, s.mv r1 v1, q1, o1.cl.mono (fun _ _ z _ => z) (fun _ _ z => z) (fun _ _ z => z) (fun _ _ z => z)⟩⟩
theorem ss_asg (he : SE X B e f) (hg : SG X B tg g us) (hs : swapsWithSole [tg] e pos.line X.env = pure false) (hw : swappedStores [tg] e X.env = pure none) (h1 : (assignEach [tg] X.env).map (·.2) = [assign tg X.env]) : SSt X B (.Assign [tg] e pos) (sAs f g) :=
  ps_imp (ps_asg he hg hs hw h1) fun D σ H i => as_ok i
theorem ss_set {i : Nat} {x : Str} {pos' : Pos} (hN : X.N.Nodup) (hi : X.N[i]? = some x) (hx : Loc X.env.scope x) (he : SE X B e f) (hs : swapsWith e (some (.Name x pos')) pos.line X.env = pure false) (hf : X.fn x = true ∨ X.env.scope.names.lookup x = some .local) :
    SSt X B (.Assign [.Name x pos'] e pos) (sAs f (gN i)) :=
  ps_imp (ps_set hN hi hx he hs hf) fun D σ H ⟨m, h, ρ, s, o⟩ => ⟨m, h, ρ, s, (OutS.bind s o).mono fun v H1 ⟨w, m1, h1, r1, v1, q1, o1⟩ => o1 m1 H1 _ (by rw [setR_eq]; exact (s.mv r1 v1).set q1 i) Mv.refl⟩
def sPar (i j : Nat) (fs : FA) : FS := fun ρ h => bindS (fs ρ h) ρ fun ws h1 => match ws with
  | [w, u] => .nx ((ρ.set i (some w)).set j (some u)) h1
  | _ => .no
theorem ss_par {i j : Nat} {x y : Str} {a b : Expr} {px py pt : Pos} {kt k2 : Nat} {pt2 : Pos} (hc : X.calm = true) (hN : X.N.Nodup) (hi : X.N[i]? = some x) (hj : X.N[j]? = some y) (hij : i ≠ j)
    (hx : X.env.scope.names.lookup x = some .local) (hy : X.env.scope.names.lookup y = some .local) (ha : SA X B [a, b] fs)
    (hw : swappedStores [.Tuple [.Name x px, .Name y py] kt pt] (.Tuple [a, b] k2 pt2) X.env = pure (some [x, y]))
    (hs : swapsWithSole [.Tuple [.Name x px, .Name y py] kt pt] (.Tuple [a, b] k2 pt2) pos.line X.env = pure false) :
    SSt X B (.Assign [.Tuple [.Name x px, .Name y py] kt pt] (.Tuple [a, b] k2 pt2) pos) (sPar i j fs) :=
  ps_imp (ps_par hc hN hi hj hij hx hy ha hw hs) fun D σ H ⟨m, h, ρ, s, o⟩ => ⟨m, h, ρ, s, (OutS.bind s o).mono fun vs H1 ⟨ws, m1, h1, r1, v1, q1, o1⟩ => by
    match ws, o1 with
    | [w, u], o1 =>
      obtain ⟨v, x, rfl, a1, a2⟩ := rws_two q1
      exact ⟨v, x, rfl, o1 m1 H1 _ (((s.mv r1 v1).set a1 i).set a2 j) Mv.refl⟩⟩
def sAu (i : Nat) (f : FE) (g : W → W → Hpe → Res W) : FS := fun ρ h => match nthR ρ i with
  | some (some w) => bif noClo w then bindS (f ρ h) ρ fun u h1 => bindS (g w u h1) ρ fun z h2 => .nx (setR ρ i (some z)) h2 else .no
  | _ => .no
def whileE (t : FT) (b : FS) : Nat → FS
  | 0, _, _ => .no
  | k + 1, ρ, h => bindS (t ρ h) ρ fun c h1 => bif c then (match b ρ h1 with
      | .nx ρ' h' => whileE t b k ρ' h'
      | .ct ρ' h' => whileE t b k ρ' h'
      | .bk ρ' h' => .nx ρ' h'
      | .rt w h' => .rt w h'
      | .ex x ρ' h' => .ex x ρ' h'
      | .no => .no) else .nx ρ h1
def sWh (t : FT) (b : FS) : FS := whileE t b 1000000
theorem loop_body {m : Nat → Addr} {h : Hpe} {H : Hp} {D : Ends} {r : RS} {k : Rho → Hpe → RS} (rh : RH B.G m h H) (o : OutS B m h H D (match r with
      | .nx ρ' h' => k ρ' h'
      | .ct ρ' h' => k ρ' h'
      | .bk ρ' h' => .nx ρ' h'
      | .rt w h' => .rt w h'
      | .ex x ρ' h' => .ex x ρ' h'
      | .no => .no)) :
    OutS B m h H { D with nx := fun σ' H' => ∃ m' h' ρ', SS B.G B.cf m' h' ρ' σ' H' ∧ Mv m h.nx H m' h'.nx H' ∧ OutS B m' h' H' D (k ρ' h'), ct := fun σ' H' => ∃ m' h' ρ', SS B.G B.cf m' h' ρ' σ' H' ∧ Mv m h.nx H m' h'.nx H' ∧ OutS B m' h' H' D (k ρ' h'), bk := D.nx } r := by
  cases r with
  | nx ρ' h' => exact fun m' H' σ' a b => ⟨m', h', ρ', a, b, OutS.shift rh a.rh b o⟩
  | ct ρ' h' => exact fun m' H' σ' a b => ⟨m', h', ρ', a, b, OutS.shift rh a.rh b o⟩
  | bk ρ' h' => exact o
  | rt w h' => exact o
  | ex x ρ' h' => exact o
  | no => exact o
theorem ss_while {x : List Stmt} (hp : PassesOwn (model X.prog X.w) X.A X.env X.xe) (hc : ST X B c ft) (hb : SSs X B x s1) : SSt X B (.While c x [] pos) (sWh ft s1) :=
  ps_imp (ps_while hp hc hb) fun D σ H ⟨m, h, ρ, s, o⟩ => by
    refine ⟨fun k σ H => ∃ m h ρ, SS B.G B.cf m h ρ σ H ∧ OutS B m h H D (whileE ft s1 k ρ h), ⟨1000000, m, h, ρ, s, o⟩, ?_⟩
    rintro k σ1 H1 ⟨m1, h1, ρ1, s1', o1⟩
    cases k with
    | zero => exact o1.elim
    | succ k =>
      refine ⟨m1, h1, ρ1, s1', (OutS.bind s1' o1).mono fun v H2 ⟨w, m2, h2, r2, v2, q2, o2⟩ => ?_⟩
      subst q2
      cases w with
      | false => rw [if_neg (by decide)]; exact o2 m2 H2 σ1 (s1'.mv r2 v2) Mv.refl
      | true =>
        rw [if_pos rfl]
        refine ⟨fun σ' H' => ∃ m' h' ρ', SS B.G B.cf m' h' ρ' σ' H' ∧ OutS B m' h' H' D (whileE ft s1 k ρ' h'), fun σ' H' z => ⟨k, Nat.lt_succ_self k, z⟩, m2, h2, ρ1, s1'.mv r2 v2, ?_⟩
        exact (loop_body (k := fun ρ' h' => whileE ft s1 k ρ' h') r2 o2).mono (fun _ _ ⟨m', h', ρ', a, _, b⟩ => ⟨m', h', ρ', a, b⟩) (fun _ _ z => z) (fun _ _ z => z) (fun _ _ ⟨m', h', ρ', a, _, b⟩ => ⟨m', h', ρ', a, b⟩)
abbrev Src := Hpe → Nat → Option (Option W)
def ItS (G : GC) (m : Nat → Addr) (n : Nat) (H0 : Hp) (src : Src) (J : It) : Prop := ∀ (m' : Nat → Addr) (h' : Hpe) (H' : Hp) (i : Nat), RH G m' h' H' → (∀ k, k < n → m' k = m k) → n ≤ h'.nx → TupK H0 H' → (∀ k, k < n → ∀ ob u, H0 (m k) = some (.frz ob u) → H' (m k) = some (.frz ob u)) →
  (src h' i = some none → J.stop i H') ∧ ∀ w, src h' i = some (some w) → J.go i H' ∧ ∀ x H'', J.yld i H' x H'' → RH G m' h' H'' ∧ Mv m' h'.nx H' m' h'.nx H'' ∧ RW G m' h'.nx H'' w x
abbrev FI := Rho → Hpe → Res Src
def tI (B : Bx) (f : FI) : TI := fun σ H R => ∃ m h ρ, SS B.G B.cf m h ρ σ H ∧ Out B.G B.cl (fun m n H src J => ItS B.G m n H src J) (fun c d H' => B.W c d σ H') m h H (f ρ h) R
def SI (X : Cx) (B : Bx) (tg iter : Expr) (f : FI) : Prop := PI X tg iter (tI B f)
theorem pi_imp {iter : Expr} {t t' : TI} (h : PI X tg iter t) (i : ∀ σ H R, t' σ H R → t σ H R) : PI X tg iter t' := ⟨fun pins s σ H R I q => h.run pins s σ H R I (i σ H R q)⟩
def srcT (ws : List W) : Src := fun _ i => match nthR ws i with
  | some w => some (some w)
  | none => some none
def srcL (n : Nat) : Src := fun h i => match rdL h n with
  | some ws => match nthR ws i with
    | some w => some (some w)
    | none => some none
  | none => none
def srcR (lo : Int) (n : Nat) : Src := fun _ i => bif Nat.blt i n then some (some (.int (lo + (i : Nat)))) else some none
theorem TupK.trans {H H1 H2 : Hp} (a : TupK H H1) (b : TupK H1 H2) : TupK H H2 := fun x xs q => b x xs (a x xs q)
theorem its_tup {G : GC} {m : Nat → Addr} {n : Nat} {H : Hp} {a : Addr} {xs : List V} {ws : List W} (q : SqT G.K H a xs) (r : RWs G m n H ws xs) : ItS G m n H (srcT ws) (Itt G.K a) := by
  intro m' h' H' i rh old le tk kf
  have q' := tk.seq q
  have r' := r.mono old le tk
  refine ⟨fun e => ?_, fun w e => ?_⟩
  · simp only [srcT, nthR_eq] at e
    split at e
    · cases e
    · rename_i z
      exact ⟨xs, q', by rw [← r.len]; exact List.getElem?_eq_none_iff.mp z⟩
  · simp only [srcT, nthR_eq] at e
    split at e
    · rename_i u z
      cases e
      obtain ⟨v, e1, rv⟩ := r'.get z
      refine ⟨⟨xs, v, q', e1⟩, fun x H'' ⟨e2, y⟩ => ?_⟩
      subst e2
      have := y xs q'
      rw [e1] at this; cases this
      exact ⟨rh, Mv.refl, rv⟩
    · cases e
theorem its_lst {G : GC} {m : Nat → Addr} {n i : Nat} {H : Hp} (hi : i < n) : ItS G m n H (srcL i) (Itl G.K (m i)) := by
  intro m' h' H' j rh old le tk kf
  refine ⟨fun e => ?_, fun w e => ?_⟩
  · simp only [srcL, nthR_eq] at e
    split at e
    · rename_i ws ew
      obtain ⟨xs, sq, q⟩ := rh.rd (Nat.lt_of_lt_of_le hi le) ew
      rw [old i hi] at sq
      split at e
      · cases e
      · rename_i z
        exact ⟨xs, sq, by rw [← q.len]; exact List.getElem?_eq_none_iff.mp z⟩
    · cases e
  · simp only [srcL, nthR_eq] at e
    split at e
    · rename_i ws ew
      obtain ⟨xs, sq, q⟩ := rh.rd (Nat.lt_of_lt_of_le hi le) ew
      rw [old i hi] at sq
      split at e
      · rename_i u z
        cases e
        obtain ⟨v, e1, rv⟩ := q.get z
        refine ⟨⟨xs, v, sq, e1⟩, fun x H'' ⟨e2, y⟩ => ?_⟩
        subst e2
        have := y xs sq
        rw [e1] at this; cases this
        exact ⟨rh, Mv.refl, rv⟩
      · cases e
    · cases e
theorem its_rng {G : GC} {m : Nat → Addr} {n : Nat} {H : Hp} (lo : Int) (k : Nat) : ItS G m n H (srcR lo k) (Itr lo k) := by
  intro m' h' H' j rh old le tk kf
  refine ⟨fun e => ?_, fun w e => ?_⟩
  · simp only [srcR] at e
    cases c : Nat.blt j k with
    | true => rw [c] at e; cases e
    | false =>
      have : ¬ j < k := fun z => by
        have : Nat.blt j k = true := Nat.ble_eq_true_of_le z
        rw [c] at this; cases this
      exact Nat.not_lt.mp this
  · simp only [srcR] at e
    cases c : Nat.blt j k with
    | false => rw [c] at e; cases e
    | true =>
      rw [c] at e
      cases e
      exact ⟨Nat.le_of_ble_eq_true c, fun x H'' ⟨e1, e2⟩ => by subst e1; subst e2; exact ⟨rh, Mv.refl, .int _⟩⟩
def cR (i : Int) : Bool := decide (-1000000 ≤ i) && decide (i ≤ 1000000)
def iR1 (fs : FA) : FI := fun ρ h => (fs ρ h).bind fun ws h1 => match ws with
  | [.int j] => bif cR j then .ok (srcR 0 j.toNat) h1 else .no
  | _ => .no
theorem cR_ok {i : Int} (h : cR i = true) : -(2 ^ 62) ≤ i ∧ i < 2 ^ 62 := by
  simp only [cR, Bool.and_eq_true, decide_eq_true_eq] at h
  omega
theorem si_r1 {q : Pos} (hg : Gl X "range") (hm : X.mg "range" = none) (ha : SA X B [a] fs) (hs : starEach [a] X.env = [(false, eval a X.env)]) : SI X B tg (.Call (.Name "range" p) [a] [] q) (iR1 fs) :=
  pi_imp (pi_range1 hg hm ha hs) fun σ H R ⟨m, h, ρ, s, o⟩ => ⟨m, h, ρ, s, (Out.bind s.rh o).mono fun vs H1 ⟨ws, m1, h1, r1, v1, q1, o1⟩ => by
    match ws, o1 with
    | [.int j], o1 =>
      obtain ⟨v, rfl, r⟩ := rws_one q1
      obtain rfl := rw_int r
      simp only at o1
      cases c : cR j with
      | false => rw [c] at o1; exact o1.elim
      | true => rw [c] at o1; exact ⟨j, rfl, (cR_ok c).1, (cR_ok c).2, o1 m1 H1 _ r1 Mv.refl (its_rng 0 _)⟩⟩
def forE (src : Src) (g : FG) (b : FS) : Nat → Nat → FS
  | 0, _, _, _ => .no
  | k + 1, i, ρ, h => match src h i with
    | none => .no
    | some none => .nx ρ h
    | some (some w) => match (match g w ρ h with
        | .nx ρ' h' => b ρ' h'
        | .ex x ρ' h' => .ex x ρ' h'
        | _ => .no) with
      | .nx ρ' h' => forE src g b k (i + 1) ρ' h'
      | .ct ρ' h' => forE src g b k (i + 1) ρ' h'
      | .bk ρ' h' => .nx ρ' h'
      | .rt w h' => .rt w h'
      | .ex x ρ' h' => .ex x ρ' h'
      | .no => .no
def sFor (fi : FI) (g : FG) (b : FS) : FS := fun ρ h => bindS (fi ρ h) ρ fun src h1 => forE src g b 1000000 0 ρ h1
theorem for_tr {fi : FI} : ∀ D σ H, tS B (sFor fi g s1) D σ H → tFor (tI B fi) (tG B g us) (tS B s1) D σ H :=
  fun D σ H ⟨m, h, ρ, s, o⟩ => ⟨m, h, ρ, s, (OutS.bind s o).mono fun J H1 ⟨src, m1, h1, r1, v1, its, o1⟩ => by
    refine ⟨fun i k σ' H' => ∃ m' h' ρ', SS B.G B.cf m' h' ρ' σ' H' ∧ Mv m1 h1.nx H1 m' h'.nx H' ∧ OutS B m' h' H' D (forE src g s1 k i ρ' h'), ⟨1000000, m1, h1, ρ, s.mv r1 v1, Mv.refl, o1⟩, ?_⟩
    rintro i k σ2 H2 ⟨m2, h2, ρ2, s2', v2, o2⟩
    cases k with
    | zero => exact o2.elim
    | succ k =>
      obtain ⟨i1, i2⟩ := its m2 h2 H2 i s2'.rh v2.old v2.le (v2.tupk r1) v2.kf
      simp only [forE] at o2
      cases c : src h2 i with
      | none => rw [c] at o2; exact o2.elim
      | some c' =>
        rw [c] at o2
        cases c' with
        | none => exact .inl ⟨i1 c, o2 m2 H2 σ2 s2' Mv.refl⟩
        | some w =>
          obtain ⟨go, yl⟩ := i2 w c
          refine .inr ⟨go, fun σ' H' => ∃ m' h' ρ', SS B.G B.cf m' h' ρ' σ' H' ∧ Mv m1 h1.nx H1 m' h'.nx H' ∧ OutS B m' h' H' D (forE src g s1 k (i + 1) ρ' h'), fun σ' H' z => ⟨k, Nat.lt_succ_self k, z⟩, fun x H3 y => ?_⟩
          obtain ⟨r3, v3, q3⟩ := yl x H3 y
          have s3 := s2'.mv r3 v3
          have o3 := OutS.shift s2'.rh r3 v3 o2
          refine ⟨m2, h2, ρ2, w, s3, q3, ?_⟩
          have t23 : Mv m1 h1.nx H1 m2 h2.nx H3 := v2.trans (s2'.rh.mv_ne v2) v3
          cases q : g w ρ2 h2 with
          | nx ρ4 h4 =>
            simp only [q] at o3
            intro m4 H4 σ4 s4 v4 _
            have t4 := t23.trans (r3.mv_ne t23) v4
            refine ⟨m4, h4, ρ4, s4, ?_⟩
            refine (loop_body (k := fun ρ' h' => forE src g s1 k (i + 1) ρ' h') s4.rh (OutS.shift r3 s4.rh v4 o3)).mono (fun σ5 H5 ⟨m5, h5, ρ5, s5, v5, o5⟩ => ⟨m5, h5, ρ5, s5, t4.trans (s4.rh.mv_ne t4) v5, o5⟩) (fun _ _ z => z) (fun _ _ z => z) (fun σ5 H5 ⟨m5, h5, ρ5, s5, v5, o5⟩ => ⟨m5, h5, ρ5, s5, t4.trans (s4.rh.mv_ne t4) v5, o5⟩)
          | ex e ρ4 h4 => simp only [q] at o3; exact o3
          | no => simp only [q] at o3; exact o3
          | rt _ _ => simp only [q] at o3; exact o3.elim
          | bk _ _ => simp only [q] at o3; exact o3.elim
          | ct _ _ => simp only [q] at o3; exact o3.elim⟩
theorem ss_for {iter : Expr} {x : List Stmt} {fi : FI} (hp : PassesOwn (model X.prog X.w) X.A X.env X.xe) (hc : X.calm = true) (hi : SI X B tg iter fi) (hg : SG X B tg g us) (hb : SSs X B x s1) (hs : ∀ x, foldedSetIterable iter X.env x = pure x) :
    SSt X B (.For tg iter x [] pos) (sFor fi g s1) := ps_imp (ps_for hp hc hi hg hb hs) for_tr
end
end EV
namespace EV
open PySem PySem.Spec PyProof.Rows L2
def spE (G : GC) (cl : Cls) (n : Nat) (g : List W → Hpe → Res W) : Sp := fun vs H Q E => ∃ m h ws, RH G m h H ∧ RWs G m h.nx H ws vs ∧ ws.length = n ∧ Out G cl (RW G) (fun c d H' => E c d H') m h H (g ws h) Q
structure FdOk (fd : FuncData) (t : CTx) (cl : List (Str × Addr)) (c : Addr) : Prop where
  qual : fd.qualname = t.qual
  scope : fd.scope = t.scope
  glob : fd.globals = mainGlobals
  clo : fd.closure = cl
  body : fd.body = t.body
  code : fd.code = .ref c
  blt : fd.builtins = builtinsNs
  bind : ∀ us : List Value, us.length = t.ps.length → bindArgs fd ⟨us, []⟩ = pure (t.ps.zip us)
def ClAt (G : GC) (t : CTx) (s : Shared) (H : Hp) (fs : List Addr) (f : Addr) (vs : List V) : Prop :=
  ∃ cl c o fd P pos ps, s.heap.get? f = some o ∧ H f = none ∧ f ∉ fs ∧ o.data = .func fd ∧ FdOk fd t cl c ∧ P ∈ G.ltabs ∧ H P = some (.tbl ps) ∧ codeAmong pos ps.toList = some (.ref c) ∧ G.nm pos.line pos.col = t.qual ∧
    NdefX.CellsAt cl t.fr (vs.map some) s.heap H ∧ ∀ y a, cl.lookup y = some a → a ∉ fs
def CfAt (G : GC) (s : Shared) (H : Hp) (fs : List Addr) : CF := fun k f vs => ∃ t, G.tx k = some t ∧ ClAt G t s H fs f vs
structure FnE (P : Program) (w : World) (K : PySem.W.Frag) (mg : Str → Option Value) (base : Heap) (k : Nat) (f : Addr) (fd : FuncData) (ps : List Str) (G : GC) (cl : Cls) (g : List W → Hpe → Res W) : Prop where
  run : ∀ (A : Around) (outer : List PySem.Env) (s : Shared) (H : Hp) (args : Args) (us : List Value) (vs : List V) (Q : VK) (E : XK), Room k A → Env0 P w K mg base A outer s H → BindsTo s fd args (ps.zip us) → Vals vs us →
    (∃ m h ws, RH G m h H ∧ RCs G (CfAt G s H (frs outer)) m h.nx H ws vs ∧ ws.length = ps.length ∧ Out G cl (RW G) (fun c d H' => E c d H') m h H (g ws h) Q) →
    codeAny (model P w) A (.call (.ref f) args) (CR (L2.CX P w) outer P w H s Q E) s
theorem FnE.ok {P : Program} {w : World} {K : PySem.W.Frag} {mg : Str → Option Value} {base : Heap} {k : Nat} {f : Addr} {fd : FuncData} {ps : List Str} {G : GC} {cl : Cls} {g : List W → Hpe → Res W} (F : FnE P w K mg base k f fd ps G cl g) : FnOk P w K mg base (L2.CX P w) k f fd ps (spE G cl ps.length g) :=
  ⟨fun vs H Q E ⟨m, h, ws, _, r, e, _⟩ => by rw [← r.len, e], fun A outer s H args us vs Q E hr e0 hb r ⟨m, h, ws, rh, rs, e, o⟩ => F.run A outer s H args us vs Q E hr e0 hb r ⟨m, h, ws, rh, .of rs, e, o⟩⟩
theorem FnE.mono {P : Program} {w : World} {K : PySem.W.Frag} {mg : Str → Option Value} {base : Heap} {j k : Nat} {f : Addr} {fd : FuncData} {ps : List Str} {G : GC} {cl : Cls} {g : List W → Hpe → Res W} (F : FnE P w K mg base j f fd ps G cl g) (h : j ≤ k) : FnE P w K mg base k f fd ps G cl g :=
  ⟨fun A outer s H args us vs Q E hr => F.run A outer s H args us vs Q E (hr.mono h)⟩
structure DfE (P : Program) (w : World) (K : PySem.W.Frag) (mg : Str → Option Value) (base : Heap) (G : GC) (cl : Cls) (x : Str) (ps : List Str) (k : Nat) (g : List W → Hpe → Res W) : Prop where
  ex : ∃ f fd, FnE P w K mg base k f fd ps G cl g ∧ mg x = some (.ref f) ∧ PySem.W.keepIn K (.ref f) = true ∧ Binds K fd ps []
def runB (n : Nat) (f : FS) (ws : List W) (h : Hpe) : Res W := match f (ws.map some ++ List.replicate (n - ws.length) none) h with
  | .nx _ h' => .ok .non h'
  | .rt w h' => .ok w h'
  | .ex x _ h' => .ex x h'
  | _ => .no
theorem ss_start {G : GC} {cf : CF} {m : Nat → Addr} {h : Hpe} {H : Hp} {ws : List W} {vs : List V} (rh : RH G m h H) (r : RCs G cf m h.nx H ws vs) (n : Nat) : SS G cf m h (ws.map some ++ List.replicate (n - ws.length) none) (vs.map some ++ List.replicate (n - vs.length) none) H := by
  refine ⟨rh, by simp [r.len], fun i w e => ?_⟩
  have hl := r.len
  by_cases c : i < ws.length
  · rw [List.getElem?_append_left (by rw [List.length_map]; exact c), List.getElem?_map] at e
    cases q : ws[i]? with
    | none => rw [q] at e; cases e
    | some u =>
      rw [q] at e
      cases e
      obtain ⟨v, e1, rv⟩ := r.get q
      exact ⟨v, by rw [List.getElem?_append_left (by rw [List.length_map]; omega), List.getElem?_map, e1]; rfl, rv⟩
  · rw [List.getElem?_append_right (by rw [List.length_map]; omega), List.getElem?_replicate] at e
    split at e <;> cases e
theorem run_end {G : GC} {cl : Cls} {cf : CF} {E : XK} {Q : VK} {m : Nat → Addr} {h : Hpe} {H : Hp} {n : Nat} {fs : FS} {ws : List W} (o : Out G cl (RW G) (fun c d H' => E c d H') m h H (runB n fs ws h) Q) :
    OutS ⟨G, cl, fun c d _ H' => E c d H', cf⟩ m h H { nx := fun _ H' => Q .non H', rt := Q } (fs (ws.map some ++ List.replicate (n - ws.length) none) h) := by
  simp only [runB] at o
  cases q : fs (ws.map some ++ List.replicate (n - ws.length) none) h with
  | nx ρ' h' => simp only [q] at o; exact fun m' H' σ' a b => o m' H' .non a.rh b .non
  | rt w' h' => simp only [q] at o; exact o
  | ex x ρ' h' => simp only [q] at o; exact fun m' H' σ' c d a b e => o m' H' c d a.rh b e
  | no => simp only [q] at o; exact o
  | bk _ _ => simp only [q] at o; exact o.elim
  | ct _ _ => simp only [q] at o; exact o.elim
theorem ok_E {P : Program} {w : World} {K : PySem.W.Frag} {mg : Str → Option Value} {base : Heap} {G : GC} {cl : Cls} {x qual : Str} {st : Stmt} {f : Addr} {fd : FuncData} {N ps : List Str} {k : Nat} {fs : FS} (F : Fun K x qual st f fd) (S : FnScope N ps (defScope st))
    (hbody : ∀ (cdv : Value) (A : Around) (outer : List PySem.Env) (s : Shared) (H : Hp) (E : XK), Room k (A.deeper (envOfC qual (defScope st) s.heap.objs.size f cdv)) →
      SSs (cxOf (L2.CX P w) P w K mg base N qual (defScope st) f cdv A outer s H E) ⟨G, cl, fun c d _ H' => E c d H', CfAt G s H (frs outer)⟩ (defBody st) fs) : FnE P w K mg base (k + 1) f fd ps G cl (runB N.length fs) := by
  obtain ⟨oc, od, kV, doc, pm, an, cdv, ct, osl, rfl, lk, hcd⟩ := F.ex
  refine ⟨fun A outer s H args us vs Q E hr e0 hb r ⟨m, h, ws, rh, rs, e, o⟩ => ?_⟩
  exact LamX.run_ofS lk hcd S hr e0 hb r (by rw [← rs.len, e]) fun hr' => ⟨_, hbody cdv A outer s H E hr', m, h, _, ss_start rh rs N.length, run_end o⟩
section
variable {X : Cx} {B : Bx} {a b c e tg elt iter o : Expr} {es tgs ifs : List Expr} {fa fb fc f fe : FE} {ft : FT} {fs : FA} {fi : FI} {g : FG} {pos p p2 : Pos} {j : Nat} {x : Str} {us vs : List Nat}
def eCl (n : Nat) (g : List W → Hpe → Res W) (fs : FA) : FE := fun ρ h => (fs ρ h).bind fun ws h1 => bif Nat.beq ws.length n then g ws h1 else .no
theorem se_call {ps : List Str} {k n : Nat} {g : List W → Hpe → Res W} (D : DfE X.prog X.w X.K X.mg X.base B.G B.cl x ps k g) (tk : Takes X B.W) (hr : Room k X.A) (hg : Gl X x) (ha : SA X B (e :: es) fs) (hdb : (x == ("__debug__" : Str)) = false)
    (he : starEach (e :: es) X.env = (false, eval e X.env) :: starEach es X.env) (hpl : (backTo pos (starEach es X.env)).any (·.1) = false) (hn : ps.length = n) : SE X B (.Call (.Name x p) (e :: es) [] pos) (eCl n g fs) := by
  subst hn
  obtain ⟨f, fd, F, hm, hk, hb⟩ := D.ex
  refine pe_imp (pe_callS F.ok hr hg hm hk hb (fun σ => passAt tk σ) ha hdb he hpl) fun σ H Q ⟨m, h, ρ, s, o⟩ => ⟨m, h, ρ, s, (Out.bind s.rh o).mono fun vs H1 ⟨ws, m1, h1, r1, v1, q1, o1⟩ => ?_⟩
  cases c : Nat.beq ws.length ps.length with
  | false => rw [c] at o1; exact o1.elim
  | true => rw [c] at o1; exact ⟨m1, h1, ws, r1, q1, beq_eq c, o1⟩
def eCl0 (g : List W → Hpe → Res W) : FE := fun _ h => g [] h
theorem pe_callS0 {CX : CXT} {k : Nat} {f : Addr} {fd : FuncData} {ps : List Str} {sp : Sp} {E : L2.St → XK} (F : FnOk X.prog X.w X.K X.mg X.base CX k f fd ps sp) (hr : Room k X.A) (hg : Gl X x) (hm : X.mg x = some (.ref f)) (hk : PySem.W.keepIn X.K (.ref f) = true) (hb : Binds X.K fd ps []) (hx : ∀ σ, PassesAt CX X σ (E σ))
    (hdb : (x == ("__debug__" : Str)) = false) : PE X (.Call (.Name x p) [] [] pos) (tCallS sp E tNil) := by
  refine ⟨fun pins s σ H Q I h => ?_⟩
  refine wpAny_Call_Name_kw (ld_glob I hg hm ?_ hdb)
  exact PySem.W.callWith_K0 I.kIn hk (run_fnS (us := []) F hr hb (hx σ) I .nil h)
theorem se_call0 {k : Nat} {g : List W → Hpe → Res W} (D : DfE X.prog X.w X.K X.mg X.base B.G B.cl x [] k g) (tk : Takes X B.W) (hr : Room k X.A) (hg : Gl X x) (hdb : (x == ("__debug__" : Str)) = false) : SE X B (.Call (.Name x p) [] [] pos) (eCl0 g) := by
  obtain ⟨f, fd, F, hm, hk, hb⟩ := D.ex
  exact pe_imp (pe_callS0 F.ok hr hg hm hk hb (fun σ => passAt tk σ) hdb) fun σ H Q ⟨m, h, ρ, s, o⟩ => ⟨m, h, [], s.rh, .nil, rfl, o⟩
def ClS (G : GC) (r : List V → Hp → VK → Prop) (g : List W → Hpe → Res W) : Prop := ∀ (cl : Cls) (Wx : Value → Option Addr → Hp → Prop) (m : Nat → Addr) (h : Hpe) (H : Hp) (ws : List W) (vs : List V) (Q : VK), RH G m h H → RWs G m h.nx H ws vs →
  Out G cl (RW G) Wx m h H (g ws h) Q → r vs H Q
def eBl (g : List W → Hpe → Res W) (fs : FA) : FE := fun ρ h => (fs ρ h).bind g
theorem bl_ok {r : List V → Hp → VK → Prop} {g : List W → Hpe → Res W} (hop : ClS B.G r g) : ∀ σ H Q, tE B.G B.cf B.cl B.W (eBl g fs) σ H Q → tCB r (tA B.G B.cf B.cl B.W fs) σ H Q :=
  fun σ H Q ⟨m, h, ρ, s, o⟩ => ⟨m, h, ρ, s, (Out.bind s.rh o).mono fun vs H1 ⟨ws, m1, h1, r1, v1, q1, o1⟩ => hop B.cl _ m1 h1 H1 ws vs Q r1 q1 o1⟩
theorem se_bl' {id : String} {r : List V → Hp → VK → Prop} {g : List W → Hpe → Res W} (hc : CallR X (.builtin id) r) (hop : ClS B.G r g) (hg : Gl X x) (hm : X.mg x = none) (hv : bootBuiltins x = some (.builtin id)) (ha : SA X B (e :: es) fs)
    (h1 : x ≠ "__name__") (h2 : (x == ("__debug__" : Str)) = false) (h3 : starEach (e :: es) X.env = (false, eval e X.env) :: starEach es X.env) (h4 : (backTo pos (starEach es X.env)).any (·.1) = false) :
    SE X B (.Call (.Name x p) (e :: es) [] pos) (eBl g fs) := pe_imp (pe_callB hc hg hm hv ha h1 h2 h3 h4) (bl_ok hop)
theorem se_ty {T : String} {r : List V → Hp → VK → Prop} {g : List W → Hpe → Res W} (hc : CallR X (.type T) r) (hop : ClS B.G r g) (hg : Gl X x) (hm : X.mg x = none) (hv : bootBuiltins x = some (.type T)) (ha : SA X B (e :: es) fs)
    (h1 : x ≠ "__name__") (h2 : (x == ("__debug__" : Str)) = false) (h3 : starEach (e :: es) X.env = (false, eval e X.env) :: starEach es X.env) (h4 : (backTo pos (starEach es X.env)).any (·.1) = false) :
    SE X B (.Call (.Name x p) (e :: es) [] pos) (eBl g fs) := pe_imp (pe_callTy hc hg hm hv ha h1 h2 h3 h4) (bl_ok hop)
def rdS : W → Hpe → Option (List W)
  | .tup ws, _ => some ws
  | .ref n, h => rdL h n
  | _, _ => none
theorem rdS_ok {G : GC} {m : Nat → Addr} {h : Hpe} {H : Hp} {w : W} {v : V} {ws : List W} (rh : RH G m h H) (r : RW G m h.nx H w v) (e : rdS w h = some ws) : ∃ p xs, v = .ref p ∧ (SqL G.K H p xs ∨ SqT G.K H p xs) ∧ RWs G m h.nx H ws xs := by
  cases w <;> try (cases e; done)
  · cases e
    obtain ⟨a, xs, rfl, s, q⟩ := rw_tup r
    exact ⟨a, xs, rfl, .inr s, q⟩
  · obtain ⟨rfl, hn⟩ := rw_ref r
    obtain ⟨xs, s, q⟩ := rh.rd hn e
    exact ⟨_, xs, rfl, .inl s, q⟩
def bLen : List W → Hpe → Res W
  | [w], h => match rdS w h with
    | some ws => .ok (.int ws.length) h
    | none => .no
  | _, _ => .no
theorem cs_len {G : GC} : ClS G (fun xs H Q => ∃ p ys, xs = [V.ref p] ∧ (SqL G.K H p ys ∨ SqT G.K H p ys) ∧ Q (V.int ↑ys.length) H) bLen := by
  intro cl Wx m h H ws vs Q rh r o
  match ws, o with
  | [w], o =>
    obtain ⟨v, rfl, rv⟩ := rws_one r
    simp only [bLen] at o
    split at o
    · rename_i ws e
      obtain ⟨p, xs, rfl, s, q⟩ := rdS_ok rh rv e
      exact ⟨p, xs, rfl, s, o m H _ rh Mv.refl (by rw [q.len]; exact .int _)⟩
    · exact o.elim
def bAbs : List W → Hpe → Res W
  | [.int i], h => .ok (.int (if i < 0 then -i else i)) h
  | _, _ => .no
theorem cs_abs {G : GC} : ClS G (fun xs H Q => ∃ i, xs = [V.int i] ∧ Q (V.int (if i < 0 then -i else i)) H) bAbs := by
  intro cl Wx m h H ws vs Q rh r o
  match ws, o with
  | [.int i], o =>
    obtain ⟨v, rfl, rv⟩ := rws_one r
    obtain rfl := rw_int rv
    exact ⟨i, rfl, o m H _ rh Mv.refl (.int _)⟩
def bInt : List W → Hpe → Res W
  | [.int i], h => .ok (.int i) h
  | [.bl b], h => .ok (.int (if b = true then 1 else 0)) h
  | _, _ => .no
theorem cs_int {G : GC} : ClS G (fun xs H Q => (∃ i, xs = [V.int i] ∧ Q (V.int i) H) ∨ ∃ k, xs = [V.bl k] ∧ Q (V.int (if k = true then 1 else 0)) H) bInt := by
  intro cl Wx m h H ws vs Q rh r o
  match ws, o with
  | [.int i], o =>
    obtain ⟨v, rfl, rv⟩ := rws_one r
    obtain rfl := rw_int rv
    exact .inl ⟨i, rfl, o m H _ rh Mv.refl (.int _)⟩
  | [.bl b], o =>
    obtain ⟨v, rfl, rv⟩ := rws_one r
    obtain rfl := asB_ok rv
    exact .inr ⟨b, rfl, o m H _ rh Mv.refl (.int _)⟩
def bTup : List W → Hpe → Res W
  | [w], h => match rdS w h with
    | some ws => .ok (.tup ws) h
    | none => .no
  | _, _ => .no
theorem cs_tup {G : GC} : ClS G (fun xs H Q => ∃ p ys, xs = [V.ref p] ∧ ((SqL G.K H p ys ∧ ∀ (l : Addr), H l = none → Q (V.ref l) (upd H l (HO.tup ys))) ∨ SqT G.K H p ys ∧ Q (V.ref p) H)) bTup := by
  intro cl Wx m h H ws vs Q rh r o
  match ws, o with
  | [w], o =>
    obtain ⟨v, rfl, rv⟩ := rws_one r
    simp only [bTup] at o
    split at o
    · rename_i ws e
      obtain ⟨p, xs, rfl, s, q⟩ := rdS_ok rh rv e
      refine ⟨p, xs, rfl, ?_⟩
      rcases s with s | s
      · exact .inl ⟨s, tup_ok rh o q⟩
      · exact .inr ⟨s, o m H _ rh Mv.refl (.tup s q)⟩
    · exact o.elim
def bLst : List W → Hpe → Res W
  | [w], h => match rdS w h with
    | some ws => h.al (.lst ws)
    | none => .no
  | _, _ => .no
theorem cs_lst {G : GC} : ClS G (fun xs H Q => ∃ p ys, xs = [V.ref p] ∧ (SqL G.K H p ys ∨ SqT G.K H p ys) ∧ ∀ (l : Addr), H l = none → Q (V.ref l) (upd H l (HO.lst ys))) bLst := by
  intro cl Wx m h H ws vs Q rh r o
  match ws, o with
  | [w], o =>
    obtain ⟨v, rfl, rv⟩ := rws_one r
    simp only [bLst] at o
    split at o
    · rename_i ws e
      obtain ⟨p, xs, rfl, s, q⟩ := rdS_ok rh rv e
      exact ⟨p, xs, rfl, s, al_ok rh o (.lst q)⟩
    · exact o.elim
section
variable (hK : X.K = B.G.K) (hg : Gl X x) (hm : X.mg x = none)
theorem se_abs (hm : X.mg "abs" = none) (hg : Gl X "abs") (ha : SA X B [e] fs) (h3 : starEach [e] X.env = (false, eval e X.env) :: starEach [] X.env) (h4 : (backTo pos (starEach [] X.env)).any (·.1) = false) : SE X B (.Call (.Name "abs" p) [e] [] pos) (eBl bAbs fs) :=
  se_bl' call_abs cs_abs hg hm (by decide +kernel) ha (by decide) (by decide) h3 h4
theorem se_intOf (hm : X.mg "int" = none) (hg : Gl X "int") (ha : SA X B [e] fs) (h3 : starEach [e] X.env = (false, eval e X.env) :: starEach [] X.env) (h4 : (backTo pos (starEach [] X.env)).any (·.1) = false) : SE X B (.Call (.Name "int" p) [e] [] pos) (eBl bInt fs) :=
  se_ty call_int1 cs_int hg hm (by decide +kernel) ha (by decide) (by decide) h3 h4
theorem se_tupOf (hK : X.K = B.G.K) (hm : X.mg "tuple" = none) (hg : Gl X "tuple") (ha : SA X B [e] fs) (h3 : starEach [e] X.env = (false, eval e X.env) :: starEach [] X.env) (h4 : (backTo pos (starEach [] X.env)).any (·.1) = false) : SE X B (.Call (.Name "tuple" p) [e] [] pos) (eBl bTup fs) :=
  se_ty (r := fun xs H Q => ∃ p ys, xs = [V.ref p] ∧ ((SqL B.G.K H p ys ∧ ∀ (l : Addr), H l = none → Q (V.ref l) (upd H l (HO.tup ys))) ∨ SqT B.G.K H p ys ∧ Q (V.ref p) H)) (by rw [← hK]; exact call_tuple_of) cs_tup hg hm (by decide +kernel) ha (by decide) (by decide) h3 h4
end
def wipeR (ρ : Rho) : List Nat → Rho
  | [] => ρ
  | v :: vs => (wipeR ρ vs).set v none
theorem wipeR_len (ρ : Rho) : ∀ vs : List Nat, (wipeR ρ vs).length = ρ.length
  | [] => rfl
  | v :: vs => by unfold wipeR; rw [List.length_set, wipeR_len ρ vs]
theorem SS.wipe {G : GC} {cf : CF} {m : Nat → Addr} {h : Hpe} {ρ : Rho} {σ : L2.St} {H : Hp} (s : SS G cf m h ρ σ H) : ∀ vs : List Nat, SS G cf m h (wipeR ρ vs) (L2.wipe σ vs) H
  | [] => s
  | v :: vs => by
    have i := SS.wipe s vs
    refine ⟨i.rh, by rw [wipeR_len, L2.wipe_length]; exact s.len, fun k w e => ?_⟩
    simp only [wipeR] at e
    simp only [L2.wipe]
    rw [List.getElem?_set] at e ⊢
    by_cases c : v = k
    · rw [if_pos c] at e; split at e <;> cases e
    · rw [if_neg c] at e ⊢; exact i.sl k w e
def noX {α : Type} : Res α → Res α
  | .ok a h => .ok a h
  | _ => .no
theorem Out.noX {α β : Type} {G : GC} {cl : Cls} {R : (Nat → Addr) → Nat → Hp → α → β → Prop} {Wx Wy : Value → Option Addr → Hp → Prop} {m : Nat → Addr} {h : Hpe} {H : Hp} {r : Res α} {Q : β → Hp → Prop} (o : Out G cl R Wx m h H (noX r) Q) : Out G cl R Wy m h H r Q := by
  cases r with
  | ok a h' => exact o
  | ex x h' => exact o.elim
  | no => exact o
theorem RH.adopt {G : GC} {m : Nat → Addr} {h : Hpe} {H : Hp} (r : RH G m h H) (hk : h.nx < 1099511627776) {o : Ob} {ho : HO} {p : Addr} (ro : RO G m h.nx H p o ho) (hp : H p = some ho) (hn : ∀ i, i < h.nx → m i ≠ p) (hne : ∀ q, ho ≠ LamX.CodeO p q := by intro _ z; unfold LamX.CodeO at z; cases z) :
    ∃ m', RH G m' (h.new o) H ∧ m' h.nx = p ∧ (∀ i, i < h.nx → m' i = m i) := by
  refine ⟨fun i => if i = h.nx then p else m i, ?_, if_pos rfl, fun i hi => if_neg (Nat.ne_of_lt hi)⟩
  have old : ∀ i, i < h.nx → (fun i => if i = h.nx then p else m i) i = m i := fun i hi => if_neg (Nat.ne_of_lt hi)
  refine ⟨hk, fun i j hi hj e => ?_, fun i hi => ?_, r.tab, fun P hP => (r.ltab P hP).keep (fun _ e => e) fun b q e nb => ⟨e, fun i hi => by
    have hi' : i < h.nx + 1 := hi
    by_cases c : i = h.nx
    · simp only [c, if_true]
      intro z
      subst z
      rw [hp] at e; cases e
      exact hne q rfl
    · simp only [if_neg c]; exact nb i (by omega)⟩⟩
  · have hi' : i < h.nx + 1 := hi
    have hj' : j < h.nx + 1 := hj
    by_cases c : i = h.nx
    · by_cases d : j = h.nx
      · omega
      · exact absurd (show m j = p by have e' : p = m j := by simpa [c, d] using e
                                      exact e'.symm) (hn j (by omega))
    · by_cases d : j = h.nx
      · exact absurd (show m i = p by simpa [c, d] using e) (hn i (by omega))
      · exact r.inj i j (by omega) (by omega) (by simpa [c, d] using e)
  · have hi' : i < h.nx + 1 := hi
    by_cases c : i = h.nx
    · subst c
      refine ⟨o, ho, put_same 41 h.t h.nx o (by omega), ?_, ?_⟩
      · simp only [if_true]
        exact hp
      · show RO G _ _ _ (if h.nx = h.nx then p else m h.nx) o ho
        rw [if_pos rfl]
        exact ro.mono old (Nat.le_succ _) .refl
    · obtain ⟨o', ho', q1, q2, q3⟩ := r.obj i (by omega)
      refine ⟨o', ho', (put_ne 41 h.t h.nx i o c).trans q1, ?_, ?_⟩
      · simp only [if_neg c]
        exact q2
      · show RO G _ _ _ (if i = h.nx then p else m i) o' ho'
        rw [if_neg c]
        exact q3.mono old (Nat.le_succ _) .refl
def lcE (src : Src) (g : FG) (t : FT) (fe : FE) (ρ : Rho) : Nat → Nat → List W → Hpe → Res W
  | 0, _, _, _ => .no
  | k + 1, i, acc, h => match src h i with
    | none => .no
    | some none => h.al (.lst acc.reverse)
    | some (some w) => match g w ρ h with
      | .nx ρ' h1 => match t ρ' h1 with
        | .ok b h2 => bif b then (match fe ρ' h2 with
            | .ok y h3 => bif line i then lcE src g t fe ρ k (i + 1) (y :: acc) h3 else .no
            | _ => .no) else lcE src g t fe ρ k (i + 1) acc h2
        | _ => .no
      | _ => .no
def eLc (fi : FI) (g : FG) (t : FT) (fe : FE) (vs : List Nat) : FE := fun ρ h => (fi ρ h).bind fun src h1 => lcE src g t fe (wipeR ρ vs) 1000000 0 [] h1
def tYs : FT := fun _ h => .ok true h
abbrev Bx.nox (B : Bx) : Bx := ⟨B.G, B.cl, fun _ _ _ _ => False, B.cf⟩
theorem al_len {G : GC} {cl : Cls} {Wx : Value → Option Addr → Hp → Prop} {m : Nat → Addr} {h h' : Hpe} {H : Hp} {o : Ob} {Q : VK} (out : Out G cl (RW G) Wx m h H (h'.al o) Q) : h'.nx < 1099511627776 ∧ h'.al o = .ok (.ref h'.nx) (h'.new o) := by
  unfold Hpe.al at out ⊢
  cases c : Nat.blt h'.nx 1099511627776 with
  | false => rw [c] at out; exact out.elim
  | true => exact ⟨Nat.le_of_ble_eq_true c, rfl⟩
theorem lc_ok {σ : L2.St} {H : Hp} {Q : VK} (hvs : ∀ i ∈ us, i ∈ vs) (i0 : tE B.G B.cf B.cl B.W (eLc fi g ft fe vs) σ H Q) : tLc (tI B fi) (tG B.nox g us) (tT B.nox.G B.nox.cf B.nox.cl B.nox.W ft) (tE B.nox.G B.nox.cf B.nox.cl B.nox.W fe) vs σ H Q := by
  obtain ⟨m, h, ρ, s, o⟩ := i0
  refine ⟨m, h, ρ, s, (Out.bind s.rh o).mono fun J H1 ⟨src, m1, h1, r1, v1, its, o1⟩ D hD => ?_⟩
  obtain ⟨r1D, v1D⟩ := r1.tupNew (ho := .lst []) hD
  have nown : ∀ i, i < h1.nx → m1 i ≠ D := fun i hi z => r1.ne_none hi (by rw [z]; exact hD)
  have s1 := s.mv r1 v1
  -- the words at turn i
  refine ⟨fun i k H' => ∃ m' h' acc ys, RH B.G m' h' H' ∧ Mv m1 h1.nx H1 m' h'.nx H' ∧ RWs B.G m' h'.nx H' acc.reverse ys ∧ acc.length ≤ i ∧ H' D = some (.lst ys) ∧ (∀ j, j < h'.nx → m' j ≠ D) ∧
    Out B.G B.cl (RW B.G) (fun c d H2 => B.W c d σ H2) m1 h1 H1 (lcE src g ft fe (wipeR ρ vs) k i acc h') Q, ⟨1000000, m1, h1, [], [], r1D, v1D, .nil, Nat.zero_le _, upd_same, nown, o1⟩, ?_⟩
  rintro i k H' ⟨m2, h2, acc, ys, r2, v2, q2, hl, e2, n2, o2⟩
  cases k with
  | zero => exact o2.elim
  | succ k =>
    obtain ⟨i1, i2⟩ := its m2 h2 H' i r2 v2.old v2.le (v2.tupk r1) v2.kf
    simp only [lcE] at o2
    cases c : src h2 i with
    | none => rw [c] at o2; exact o2.elim
    | some c' =>
      rw [c] at o2
      cases c' with
      | none =>
        have o2 : Out B.G B.cl (RW B.G) (fun c d H2 => B.W c d σ H2) m1 h1 H1 (h2.al (.lst acc.reverse)) Q := o2
        obtain ⟨lt, e⟩ := al_len o2
        rw [e] at o2
        obtain ⟨m3, r3, e3, old3⟩ := r2.adopt lt (.lst q2) e2 n2
        refine .inl ⟨i1 c, ?_⟩
        rw [← e3]
        refine o2 m3 H' _ r3 ⟨Nat.le_trans v2.le (Nat.le_succ _), fun j hj => (old3 j (Nat.lt_of_lt_of_le hj v2.le)).trans (v2.old j hj), fun j a b => ?_, v2.kp, v2.kf⟩ (.ref _ (Nat.lt_succ_self _))
        have b' : j < h2.nx + 1 := b
        by_cases cj : j = h2.nx
        · rw [cj, e3]; exact hD
        · rw [old3 j (by omega)]; exact v2.new j a (by omega)
      | some w =>
        obtain ⟨go, yl⟩ := i2 w c
        refine .inr ⟨go, fun H3 => ∃ m' h' acc ys, RH B.G m' h' H3 ∧ Mv m1 h1.nx H1 m' h'.nx H3 ∧ RWs B.G m' h'.nx H3 acc.reverse ys ∧ acc.length ≤ i + 1 ∧ H3 D = some (.lst ys) ∧ (∀ j, j < h'.nx → m' j ≠ D) ∧
          Out B.G B.cl (RW B.G) (fun c d H2 => B.W c d σ H2) m1 h1 H1 (lcE src g ft fe (wipeR ρ vs) k (i + 1) acc h') Q, fun H3 z => ⟨k, Nat.lt_succ_self k, z⟩, fun x H3 y => ?_⟩
        obtain ⟨r3, v3, q3⟩ := yl x H3 y
        have t3 : Mv m1 h1.nx H1 m2 h2.nx H3 := v2.trans (r2.mv_ne v2) v3
        have s3 : SS B.G B.cf m2 h2 (wipeR ρ vs) (L2.wipe σ vs) H3 := ((s1.mv r2 v2).mv r3 v3).wipe vs
        -- the list stays where it is
        have keepD : ∀ {m' n' H''} {zs : List V}, (H3 D = some (.lst zs)) → Mv m2 h2.nx H3 m' n' H'' → H'' D = some (.lst zs) := fun e v => v.stay e n2 (fun _ z => by cases z)
        have e3 : H3 D = some (.lst ys) := v3.stay e2 n2 (fun _ z => by cases z)
        have nD : ∀ {m' n' H''}, Mv m2 h2.nx H3 m' n' H'' → ∀ j, j < n' → m' j ≠ D := fun v j hj z => by
          by_cases cj : j < h2.nx
          · rw [v.old j cj] at z; exact n2 j cj z
          · have := v.new j (by omega) hj
            rw [z, e3] at this; cases this
        refine ⟨m2, h2, wipeR ρ vs, w, s3, q3, ?_⟩
        cases cg : g w (wipeR ρ vs) h2 with
        | nx ρ4 h4 =>
          simp only [cg] at o2
          intro m4 H4 σ4 s4 v4 oth
          refine ⟨by rw [(oth.sub hvs).wipe, DL.wipe_wipe], m4, h4, ρ4, s4, ?_⟩
          cases ct : ft ρ4 h4 with
          | ok b h5 =>
            simp only [ct] at o2
            intro m5 H5 b' r5 v5 eb
            subst eb
            have v35 : Mv m2 h2.nx H3 m5 h5.nx H5 := v4.trans (s4.rh.mv_ne v4) v5
            have t5 : Mv m1 h1.nx H1 m5 h5.nx H5 := t3.trans (r3.mv_ne t3) v35
            have q5 : RWs B.G m5 h5.nx H5 acc.reverse ys := ((q2.mono v3.old v3.le (v3.tupk r2)).mono v35.old v35.le (v35.tupk r3))
            cases b with
            | false => rw [if_neg (by decide)]; exact ⟨m5, h5, acc, ys, r5, t5, q5, Nat.le_succ_of_le hl, keepD e3 v35, nD v35, o2⟩
            | true =>
              rw [if_pos rfl]
              have s5 : SS B.G B.cf m5 h5 ρ4 σ4 H5 := s4.mv r5 v5
              refine ⟨m5, h5, ρ4, s5, ?_⟩
              cases ce : fe ρ4 h5 with
              | ok z h6 =>
                simp only [ce, cond_true] at o2
                intro m6 H6 u r6 v6 q6
                cases cl : line i with
                | false => rw [cl] at o2; exact o2.elim
                | true =>
                  rw [cl] at o2
                  have v36 : Mv m2 h2.nx H3 m6 h6.nx H6 := v35.trans (r5.mv_ne v35) v6
                  have e6 := keepD e3 v36
                  have n6 := nD v36
                  have q6' : RWs B.G m6 h6.nx H6 acc.reverse ys := q5.mono v6.old v6.le (v6.tupk r5)
                  have hlen : ys.length < sizeLine := by
                    have h1 := q2.len
                    rw [List.length_reverse] at h1
                    have h2 : i ≤ 100000 := Nat.le_of_ble_eq_true cl
                    have h3 : (100000 : Nat) < sizeLine := by decide
                    omega
                  refine ⟨ys, e6, hlen, m6, h6, z :: acc, ys ++ [u], ?_⟩
                  -- a store at an object without a number
                  have tk : TupK H6 (upd H6 D (.lst (ys ++ [u]))) := fun a xs q => by
                    rcases q with q | ⟨ob, q⟩
                    · exact .inl (by rw [upd_ne (fun z : a = D => by rw [z, e6] at q; cases q)]; exact q)
                    · exact .inr ⟨ob, by rw [upd_ne (fun z : a = D => by rw [z, e6] at q; cases q)]; exact q⟩
                  have r7 : RH B.G m6 h6 (upd H6 D (.lst (ys ++ [u]))) := ⟨r6.sz, r6.inj, fun j hj => by
                    obtain ⟨o', ho', a1, a2, a3⟩ := r6.obj j hj
                    exact ⟨o', ho', a1, by rw [upd_ne (n6 j hj)]; exact a2, a3.mono (fun _ _ => rfl) (Nat.le_refl _) tk⟩, fun P hP => by
                    obtain ⟨ps, a1, a2⟩ := r6.tab P hP
                    exact ⟨ps, by rw [upd_ne (fun z : P = D => by rw [z, e6] at a1; cases a1)]; exact a1, a2⟩, fun P hP => (r6.ltab P hP).keep (fun ps e => by rw [upd_ne (fun z : P = D => by rw [z, e6] at e; cases e)]; exact e) fun b q e nb => ⟨by rw [upd_ne (fun z : b = D => by rw [z, e6] at e; unfold LamX.CodeO at e; cases e)]; exact e, nb⟩⟩
                  have t6 : Mv m1 h1.nx H1 m6 h6.nx H6 := t3.trans (r3.mv_ne t3) v36
                  refine ⟨r7, ⟨t6.le, t6.old, t6.new, fun b ob e hb => ?_, fun j hj ob u e => by rw [upd_ne (fun z : m1 j = D => by rw [z, hD] at e; cases e)]; exact t6.kf j hj ob u e⟩, ?_, by simp; omega, upd_same, n6, o2⟩
                  · have bD : b ≠ D := fun z => by rw [z, hD] at e; cases e
                    rw [upd_ne bD]; exact t6.kp b ob e hb
                  · rw [List.reverse_cons]
                    exact (q6'.mono (fun _ _ => rfl) (Nat.le_refl _) tk).app (.cons (q6.mono (fun _ _ => rfl) (Nat.le_refl _) tk) .nil)
              | ex _ _ => simp only [ce, cond_true] at o2; exact o2.elim
              | no => simp only [ce, cond_true] at o2; exact o2.elim
          | ex _ _ => simp only [ct] at o2; exact o2.elim
          | no => simp only [ct] at o2; exact o2.elim
        | ex _ _ _ => simp only [cg] at o2; exact o2.elim
        | no => simp only [cg] at o2; exact o2.elim
        | rt _ _ => simp only [cg] at o2; exact o2.elim
        | bk _ _ => simp only [cg] at o2; exact o2.elim
        | ct _ _ => simp only [cg] at o2; exact o2.elim
theorem pts_imp {X : Cx} {t t' : TT} (h : PTs X ifs t) (i : ∀ σ H Q, t' σ H Q → t σ H Q) : PTs X ifs t' := ⟨fun pins s σ H Q I q => h.run pins s σ H Q I (i σ H Q q)⟩
def STs (X : Cx) (B : Bx) (ifs : List Expr) (f : FT) : Prop := PTs X ifs (tT B.G B.cf B.cl B.W f)
theorem sts_nil : STs X B [] tYs := pts_imp pts_nil fun σ H Q ⟨m, h, ρ, s, o⟩ => o m H true s.rh Mv.refl rfl
theorem sts_one (h : ST X B c ft) : STs X B [c] ft := pts_one h
theorem se_lc {scope : Scope} {own : List (Str × Nat)} (hc : X.calm = true) (hN : X.N.Nodup) (hi : SI X B tg iter fi) (ok : BlkOk X.N X.env.scope scope own)
    (hg : ∀ (s : Shared) (H : Hp) (C : Addr) (cl : List (Str × Addr)) (fp : List Addr), SG (X.blk s H scope (compEnvC scope cl C X.env) fp) B.nox tg g us) (ht : ∀ (s : Shared) (H : Hp) (C : Addr) (cl : List (Str × Addr)) (fp : List Addr), STs (X.blk s H scope (compEnvC scope cl C X.env) fp) B.nox ifs ft)
    (he : ∀ (s : Shared) (H : Hp) (C : Addr) (cl : List (Str × Addr)) (fp : List Addr), SE (X.blk s H scope (compEnvC scope cl C X.env) fp) B.nox elt fe) (hus : ∀ i ∈ us, i ∈ own.map (·.2)) (hs : ∀ x, foldedSetIterable iter X.env x = pure x) :
    SE X B (.ListComp elt [⟨tg, iter, ifs, 0⟩] scope pos) (eLc fi g ft fe (own.map (·.2))) :=
  pe_imp (pe_lc hc hN hi ok hg ht he hs) fun σ H Q i => lc_ok hus i
theorem ss_lc {i : Nat} {y : Str} {py spos : Pos} {scope : Scope} {own : List (Str × Nat)} (hc : X.calm = true) (hN : X.N.Nodup) (hy : X.N[i]? = some y) (hyl : X.env.scope.names.lookup y = some .local)
    (hsw : swapsWith (.ListComp elt [⟨tg, iter, ifs, 0⟩] scope pos) (some (.Name y py)) spos.line X.env = pure true) (hi : SI X B tg iter fi) (ok : BlkOk X.N X.env.scope scope own)
    (hg : ∀ (s : Shared) (H : Hp) (C : Addr) (cl : List (Str × Addr)) (fp : List Addr), SG (X.blk s H scope (compEnvC scope cl C X.env) fp) B.nox tg g us) (ht : ∀ (s : Shared) (H : Hp) (C : Addr) (cl : List (Str × Addr)) (fp : List Addr), STs (X.blk s H scope (compEnvC scope cl C X.env) fp) B.nox ifs ft)
    (he : ∀ (s : Shared) (H : Hp) (C : Addr) (cl : List (Str × Addr)) (fp : List Addr), SE (X.blk s H scope (compEnvC scope cl C X.env) fp) B.nox elt fe) (hus : ∀ i ∈ us, i ∈ own.map (·.2)) (hs : ∀ x, foldedSetIterable iter X.env x = pure x) :
    SSt X B (.Assign [.Name y py] (.ListComp elt [⟨tg, iter, ifs, 0⟩] scope pos) spos) (sAs (eLc fi g ft fe (own.map (·.2))) (gN i)) :=
  ps_imp (ps_setLc hc hN hy hyl hsw hi ok hg ht he hs) fun D σ H ⟨m, h, ρ, s, o⟩ => lc_ok hus ⟨m, h, ρ, s, (OutS.bind s o).mono fun v H1 ⟨w, m1, h1, r1, v1, q1, o1⟩ => o1 m1 H1 _ (by first | exact (s.mv r1 v1).set q1 i | (rw [setR_eq]; exact (s.mv r1 v1).set q1 i)) Mv.refl⟩
end
end EV
namespace EV
open PySem PySem.Spec PyProof.Rows L2
section
variable {X : Cx} {B : Bx} {a b c e o tg : Expr} {es : List Expr} {fa fb fc f fo : FE} {ft : FT} {fs : FA} {pos p p2 p3 p4 tpos apos cpos : Pos} {j : Nat} {x y : Str}
def eMt (chk : W → Hpe → Bool) (g : W → List W → Hpe → Res W) (fo : FE) (fs : FA) : FE := fun ρ h => (fo ρ h).bind fun w h1 => bif chk w h1 then (fs ρ h1).bind fun ws h2 => g w ws h2 else .no
def MtS (G : GC) (T : String) (r : V → List V → Hp → VK → Prop) (chk : W → Hpe → Bool) (g : W → List W → Hpe → Res W) : Prop :=
  (∀ (m : Nat → Addr) (h : Hpe) (H : Hp) (w : W) (v : V), RH G m h H → RW G m h.nx H w v → chk w h = true → tyV G.K T v H) ∧
  ∀ (cl : Cls) (Wx : Value → Option Addr → Hp → Prop) (m : Nat → Addr) (h : Hpe) (H : Hp) (w : W) (ws : List W) (v : V) (vs : List V) (Q : VK), RH G m h H → RW G m h.nx H w v → RWs G m h.nx H ws vs → Out G cl (RW G) Wx m h H (g w ws h) Q → r v vs H Q
theorem se_mt {T id : String} {name : Str} {r : V → List V → Hp → VK → Prop} {chk : W → Hpe → Bool} {g : W → List W → Hpe → Res W} (hK : X.K = B.G.K) (pa : PlainAttrs T) (slot : Slot T name id) (hty : typeOf (.builtin id) = pure (.type "method_descriptor")) (hm : MtR X id r) (hs : MtS B.G T r chk g) (ho : SE X B o fo) (ha : SA X B (e :: es) fs)
    (hbase : attributeBase o name X.env (eval o X.env) = eval o X.env) (hfew : ((backTo cpos (starEach (e :: es) X.env)).all (fun x => !x.1) && (backToKw cpos (keywordEach [] X.env)).all (fun x => x.1.isSome)
      && decide ((e :: es).length + ([] : List Keyword).length + (if ([] : List Keyword).isEmpty then 0 else 1) < 30)) = true)
    (hline : (apos.endLine == cpos.line) = true) (hst : starEach (e :: es) X.env = (false, eval e X.env) :: starEach es X.env) (hplain : (backTo cpos (starEach es X.env)).any (·.1) = false) :
    SE X B (.Call (.Attribute o name apos) (e :: es) [] cpos) (eMt chk g fo fs) :=
  pe_imp (pe_bm pa slot hty hm ho ha hbase hfew hline hst hplain) fun σ H Q ⟨m, h, ρ, s, o⟩ => ⟨m, h, ρ, s, (Out.bind s.rh o).mono fun v H1 ⟨w, m1, h1, r1, v1, q1, o1⟩ => by
    cases c : chk w h1 with
    | false => rw [c] at o1; exact o1.elim
    | true =>
      rw [c] at o1
      refine ⟨by rw [hK]; exact hs.1 m1 h1 H1 w v r1 q1 c, m1, h1, ρ, s.mv r1 v1, (Out.bind r1 o1).mono fun vs H2 ⟨ws, m2, h2, r2, v2, q2, o2⟩ => ?_⟩
      exact hs.2 B.cl _ m2 h2 H2 w ws v vs Q r2 (q1.mono v2.old v2.le (v2.tupk r1)) q2 o2⟩
def eMt0 (chk : W → Hpe → Bool) (g : W → List W → Hpe → Res W) (fo : FE) : FE := fun ρ h => (fo ρ h).bind fun w h1 => bif chk w h1 then g w [] h1 else .no
theorem se_mt0 {T id : String} {name : Str} {r : V → List V → Hp → VK → Prop} {chk : W → Hpe → Bool} {g : W → List W → Hpe → Res W} (hK : X.K = B.G.K) (pa : PlainAttrs T) (slot : Slot T name id) (hty : typeOf (.builtin id) = pure (.type "method_descriptor")) (hm : MtR X id r) (hs : MtS B.G T r chk g) (ho : SE X B o fo)
    (hbase : attributeBase o name X.env (eval o X.env) = eval o X.env) (hline : (apos.endLine == cpos.line) = true) : SE X B (.Call (.Attribute o name apos) [] [] cpos) (eMt0 chk g fo) :=
  pe_imp (pe_bm0 pa slot hty hm ho hbase hline) fun σ H Q ⟨m, h, ρ, s, o⟩ => ⟨m, h, ρ, s, (Out.bind s.rh o).mono fun v H1 ⟨w, m1, h1, r1, v1, q1, o1⟩ => by
    cases c : chk w h1 with
    | false => rw [c] at o1; exact o1.elim
    | true =>
      rw [c] at o1
      exact ⟨by rw [hK]; exact hs.1 m1 h1 H1 w v r1 q1 c, hs.2 B.cl _ m1 h1 H1 w [] v [] Q r1 q1 .nil o1⟩⟩
def chkL : W → Hpe → Bool
  | .ref n, h => match h.get n with
    | some (.lst _) => true
    | _ => false
  | _, _ => false
theorem chkL_ok {G : GC} {m : Nat → Addr} {h : Hpe} {H : Hp} {w : W} {v : V} (rh : RH G m h H) (r : RW G m h.nx H w v) (c : chkL w h = true) : tyV G.K "list" v H := by
  cases w <;> try (cases c; done)
  rename_i n
  obtain ⟨rfl, hn⟩ := rw_ref r
  simp only [chkL] at c
  split at c
  · rename_i ws e
    obtain ⟨xs, e1, _⟩ := rh.lst hn e
    exact .inl ⟨rfl, xs, SqL.of e1⟩
  · cases c
theorem st_ok {G : GC} {cl : Cls} {Wx : Value → Option Addr → Hp → Prop} {m : Nat → Addr} {h : Hpe} {H : Hp} {n : Nat} {o : Ob} {ho : HO} {w : W} {v : V} {Q : VK} (rh : RH G m h H) (hn : n < h.nx) (out : Out G cl (RW G) Wx m h H (.ok w (h.set n o)) Q) (ro : RO G m h.nx H (m n) o ho) (rw : ∀ H', TupK H H' → RW G m h.nx H' w v) (nf : ∀ ob u, H (m n) ≠ some (.frz ob u) := by intro _ _ z; simp_all) : Q v (upd H (m n) ho) := by
  obtain ⟨r', v'⟩ := rh.store hn ro nf
  exact out m _ v r' v' (rw _ (v'.tupk rh))
def mApp : W → List W → Hpe → Res W
  | .ref n, [y], h => match h.get n with
    | some (.lst ws) => bif line ws.length then .ok .non (h.set n (.lst (ws ++ [y]))) else .no
    | _ => .no
  | _, _, _ => .no
theorem line_lt {n : Nat} (h : line n = true) : n < sizeLine := Nat.lt_of_le_of_lt (Nat.le_of_ble_eq_true h) (by decide)
theorem ms_app {G : GC} : MtS G "list" rAppend chkL mApp := by
  refine ⟨fun m h H w v rh r c => chkL_ok rh r c, fun cl Wx m h H w ws v vs Q rh r rs o => ?_⟩
  match w, ws, o with
  | .ref n, [y], o =>
    obtain ⟨rfl, hn⟩ := rw_ref r
    obtain ⟨u, rfl, ru⟩ := rws_one rs
    simp only [mApp] at o
    split at o
    · rename_i zs e
      obtain ⟨xs, e1, q⟩ := rh.lst hn e
      cases c : line zs.length with
      | false => rw [c] at o; exact o.elim
      | true => rw [c] at o; exact ⟨_, xs, u, rfl, rfl, e1, by rw [← q.len]; exact line_lt c, st_ok rh hn o (.lst (q.app (.cons ru .nil))) fun _ _ => .non⟩
    · exact o.elim
def mPop : W → List W → Hpe → Res W
  | .ref n, [], h => match h.get n with
    | some (.lst ws) => match ws[ws.length - 1]? with
      | some y => .ok y (h.set n (.lst ws.dropLast))
      | none => .no
    | _ => .no
  | _, _, _ => .no
theorem RWs.dropLast {G : GC} {m : Nat → Addr} {n : Nat} {H : Hp} {ws : List W} {vs : List V} (r : RWs G m n H ws vs) : RWs G m n H ws.dropLast vs.dropLast := by
  rw [List.dropLast_eq_take, List.dropLast_eq_take, ← r.len]
  exact r.take _
theorem ms_pop {G : GC} : MtS G "list" rPop chkL mPop := by
  refine ⟨fun m h H w v rh r c => chkL_ok rh r c, fun cl Wx m h H w ws v vs Q rh r rs o => ?_⟩
  match w, ws, o with
  | .ref n, [], o =>
    obtain ⟨rfl, hn⟩ := rw_ref r
    obtain rfl := rws_nil rs
    simp only [mPop] at o
    split at o
    · rename_i zs e
      obtain ⟨xs, e1, q⟩ := rh.lst hn e
      split at o
      · rename_i y ey
        obtain ⟨u, eu, ru⟩ := q.get ey
        exact ⟨_, xs, u, rfl, rfl, e1, by rw [← q.len]; exact eu, st_ok rh hn o (.lst q.dropLast) fun _ t => ru.mono (fun _ _ => rfl) (Nat.le_refl _) t⟩
      · exact o.elim
    · exact o.elim
def mExt : W → List W → Hpe → Res W
  | .ref n, [.tup zs], h => match h.get n with
    | some (.lst ws) => bif line (ws.length + zs.length) then .ok .non (h.set n (.lst (ws ++ zs))) else .no
    | _ => .no
  | .ref n, [.ref k], h => match h.get n, h.get k with
    | some (.lst ws), some (.lst zs) => bif line (ws.length + zs.length) then .ok .non (h.set n (.lst (ws ++ zs))) else .no
    | _, _ => .no
  | _, _, _ => .no
theorem ms_ext {G : GC} : MtS G "list" (fun x vs H Q => rExtend x vs H Q ∨ DL.rExtT G.K x vs H Q) chkL mExt := by
  refine ⟨fun m h H w v rh r c => chkL_ok rh r c, fun cl Wx m h H w ws v vs Q rh r rs o => ?_⟩
  match w, ws, o with
  | .ref n, [.tup zs], o =>
    obtain ⟨rfl, hn⟩ := rw_ref r
    obtain ⟨u, rfl, ru⟩ := rws_one rs
    obtain ⟨b, us, rfl, s, q2⟩ := rw_tup ru
    simp only [mExt] at o
    split at o
    · rename_i ws e
      obtain ⟨xs, e1, q⟩ := rh.lst hn e
      cases c : line (ws.length + zs.length) with
      | false => rw [c] at o; exact o.elim
      | true => rw [c] at o; exact .inr ⟨_, b, xs, us, rfl, rfl, e1, s, by rw [← q.len, ← q2.len]; exact line_le c, st_ok rh hn o (.lst (q.app q2)) fun _ _ => .non⟩
    · exact o.elim
  | .ref n, [.ref k], o =>
    obtain ⟨rfl, hn⟩ := rw_ref r
    obtain ⟨u, rfl, ru⟩ := rws_one rs
    obtain ⟨rfl, hk⟩ := rw_ref ru
    simp only [mExt] at o
    split at o
    · rename_i ws zs e e'
      obtain ⟨xs, e1, q⟩ := rh.lst hn e
      obtain ⟨us, e2, q2⟩ := rh.lst hk e'
      cases c : line (ws.length + zs.length) with
      | false => rw [c] at o; exact o.elim
      | true => rw [c] at o; exact .inl ⟨_, _, xs, us, rfl, rfl, e1, e2, by rw [← q.len, ← q2.len]; exact line_le c, st_ok rh hn o (.lst (q.app q2)) fun _ _ => .non⟩
    · exact o.elim
theorem mt_extE : MtR X "list.extend" (fun x vs H Q => rExtend x vs H Q ∨ DL.rExtT X.K x vs H Q) := fun pins s σ H x xs v us Q I rx rs h => by
  rcases h with h | h
  · exact mt_extend pins s σ H x xs v us Q I rx rs h
  · exact DL.mt_extT pins s σ H x xs v us Q I rx rs h
theorem mt_extK (hK : X.K = B.G.K) : MtR X "list.extend" (fun x vs H Q => rExtend x vs H Q ∨ DL.rExtT B.G.K x vs H Q) := by rw [← hK]; exact mt_extE
theorem se_ext (hK : X.K = B.G.K) (ho : SE X B o fo) (ha : SA X B (e :: es) fs) (hbase : attributeBase o "extend" X.env (eval o X.env) = eval o X.env) (hfew : ((backTo cpos (starEach (e :: es) X.env)).all (fun x => !x.1) && (backToKw cpos (keywordEach [] X.env)).all (fun x => x.1.isSome)
      && decide ((e :: es).length + ([] : List Keyword).length + (if ([] : List Keyword).isEmpty then 0 else 1) < 30)) = true)
    (hline : (apos.endLine == cpos.line) = true) (hst : starEach (e :: es) X.env = (false, eval e X.env) :: starEach es X.env) (hplain : (backTo cpos (starEach es X.env)).any (·.1) = false) :
    SE X B (.Call (.Attribute o "extend" apos) (e :: es) [] cpos) (eMt chkL mExt fo fs) := se_mt hK PySem.F.plainAttrs_list PySem.F.slot_list_extend PySem.F.type_list_extend (mt_extK hK) ms_ext ho ha hbase hfew hline hst hplain
inductive Kd where
  | int | bool | str | list | tuple
def Kd.nm : Kd → String
  | .int => "int"
  | .bool => "bool"
  | .str => "str"
  | .list => "list"
  | .tuple => "tuple"
def instW (t : Kd) (w : W) (h : Hpe) : Option Bool := match w with
  | .non => some false
  | .bl _ => some (match t with | .int => true | .bool => true | _ => false)
  | .int _ => some (match t with | .int => true | _ => false)
  | .str _ => some (match t with | .str => true | _ => false)
  | .tup _ => some (match t with | .tuple => true | _ => false)
  | .ref n => match rdL h n with
    | some _ => some (match t with | .list => true | _ => false)
    | none => none
  | .df _ => none
  | .clo _ _ => none
theorem inst_ok {G : GC} {m : Nat → Addr} {h : Hpe} {H : Hp} {w : W} {v : V} {t : Kd} {b : Bool} (rh : RH G m h H) (r : RW G m h.nx H w v) (e : instW t w h = some b) : ∃ k : String, TyX G.K H v (.type k) ∧ ∀ t b, instW t w h = some b → PySem.W.kitOne G.K (.type k) (.type (Kd.nm t)) = some b := by
  cases w with
  | non => obtain rfl := rw_non r; exact ⟨"NoneType", .base .non, fun t b e => by cases e; cases t <;> exact kit_ty (by decide +kernel)⟩
  | bl c => obtain rfl := asB_ok r; exact ⟨"bool", .base (.bl c), fun t b e => by cases e; cases t <;> exact kit_ty (by decide +kernel)⟩
  | int i => obtain rfl := rw_int r; exact ⟨"int", .base (.int i), fun t b e => by cases e; cases t <;> exact kit_ty (by decide +kernel)⟩
  | str s => obtain rfl := rw_str r; exact ⟨"str", .base (.str s), fun t b e => by cases e; cases t <;> exact kit_ty (by decide +kernel)⟩
  | tup ws =>
    obtain ⟨a, xs, rfl, s, _⟩ := rw_tup r
    refine ⟨"tuple", ?_, fun t b e => by cases e; cases t <;> exact kit_ty (by decide +kernel)⟩
    rcases s with (a | ⟨o, a⟩) | ⟨o, its, n, hk, hc, _⟩
    · exact .base (.tup a)
    · exact .fTuple a
    · exact .kTuple hk hc
  | ref n =>
    obtain ⟨rfl, hn⟩ := rw_ref r
    simp only [instW] at e ⊢
    split at e
    · rename_i ws ew
      obtain ⟨xs, s, _⟩ := rh.rd hn ew
      refine ⟨"list", ?_, fun t b e => by cases e; cases t <;> exact kit_ty (by decide +kernel)⟩
      rcases s with (a | ⟨o, a⟩) | ⟨o, its, n, hk, hc, _⟩
      · exact .base (.lst a)
      · exact .base (.frz a)
      · exact .kList hk hc
    · cases e
  | df _ => cases e
  | clo _ _ => cases e
def eIs (t : Kd) (f : FE) : FE := fun ρ h => (f ρ h).bind fun w h1 => match instW t w h1 with
  | some b => .ok (.bl b) h1
  | none => .no
theorem se_isi {t : Kd} (hK : X.K = B.G.K) (hm : X.mg "isinstance" = none) (hg : Gl X "isinstance") (he : SE X B e f) (ht : PE X (.Name x p2) (L2.tC (.ty t.nm)))
    (h3 : starEach [e, .Name x p2] X.env = (false, eval e X.env) :: starEach [.Name x p2] X.env) (h5 : starEach [Expr.Name x p2] X.env = (false, eval (.Name x p2) X.env) :: starEach [] X.env) (h4 : (backTo pos (starEach [Expr.Name x p2] X.env)).any (·.1) = false) :
    SE X B (.Call (.Name "isinstance" p) [e, .Name x p2] [] pos) (eIs t f) :=
  pe_imp (pe_callB (r := rIsi B.G.K) (by rw [← hK]; exact call_isi) hg hm (by decide +kernel) (pa_cons he (pa_cons ht pa_nil h5) h3) (by decide) (by decide) h3 h4) fun σ H Q ⟨m, h, ρ, s, o⟩ =>
    ⟨m, h, ρ, s, (Out.bind s.rh o).mono fun v H1 ⟨w, m1, h1, r1, v1, q1, o1⟩ => by
      split at o1
      · rename_i b eb
        obtain ⟨k, ty, kt⟩ := inst_ok r1 q1 eb
        exact ⟨v, .ty t.nm, _, .type t.nm, b, rfl, .ty t.nm, ty, kt t b eb, o1 m1 H1 _ r1 Mv.refl (.bl _)⟩
      · exact o1.elim⟩
def eIs2 (t t' : Kd) (f : FE) : FE := fun ρ h => (f ρ h).bind fun w h1 => match instW t w h1, instW t' w h1 with
  | some b, some b' => .ok (.bl (b || b')) h1
  | _, _ => .no
theorem se_isi2 {t t' : Kd} {kk : Nat} (hK : X.K = B.G.K) (hm : X.mg "isinstance" = none) (hg : Gl X "isinstance") (he : SE X B e f) (ht : PE X (.Name x p2) (L2.tC (.ty t.nm))) (ht' : PE X (.Name y p3) (L2.tC (.ty t'.nm)))
    (h3 : starEach [e, .Tuple [.Name x p2, .Name y p3] kk p4] X.env = (false, eval e X.env) :: starEach [.Tuple [.Name x p2, .Name y p3] kk p4] X.env)
    (h5 : starEach [Expr.Tuple [.Name x p2, .Name y p3] kk p4] X.env = (false, eval (.Tuple [.Name x p2, .Name y p3] kk p4) X.env) :: starEach [] X.env)
    (h6 : starEach [Expr.Name x p2, Expr.Name y p3] X.env = (false, eval (.Name x p2) X.env) :: starEach [Expr.Name y p3] X.env) (h7 : starEach [Expr.Name y p3] X.env = (false, eval (.Name y p3) X.env) :: starEach [] X.env)
    (h4 : (backTo pos (starEach [Expr.Tuple [.Name x p2, .Name y p3] kk p4] X.env)).any (·.1) = false) :
    SE X B (.Call (.Name "isinstance" p) [e, .Tuple [.Name x p2, .Name y p3] kk p4] [] pos) (eIs2 t t' f) :=
  pe_imp (pe_callB (r := rIsiT B.G.K) (by rw [← hK]; exact call_isiT) hg hm (by decide +kernel) (pa_cons he (pa_cons (pe_tup (pa_cons ht (pa_cons ht' pa_nil h7) h6)) pa_nil h5) h3) (by decide) (by decide) h3 h4) fun σ H Q ⟨m, h, ρ, s, o⟩ =>
    ⟨m, h, ρ, s, (Out.bind s.rh o).mono fun v H1 ⟨w, m1, h1, r1, v1, q1, o1⟩ => by
      split at o1
      · rename_i b b' eb eb'
        refine ⟨(by show 2 ≤ sizeLine; decide), fun tp hp => ?_⟩
        obtain ⟨r2, v2⟩ := r1.tupNew (ho := .tup [.ty t.nm, .ty t'.nm]) hp
        have q2 := q1.mono v2.old v2.le (v2.tupk r1)
        obtain ⟨k, ty, kt⟩ := inst_ok r2 q2 eb
        exact ⟨v, tp, _, _, [.type t.nm, .type t'.nm], _, rfl, upd_same, .cons (.ty _) (.cons (.ty _) .nil), ty, DL.kit_any2 (kt t b eb) (kt t' b' eb'), o1 m1 _ _ r2 v2 (.bl _)⟩
      · exact o1.elim⟩
def eOrT (fa fb : FE) : FE := fun ρ h => (fa ρ h).bind fun w h1 => match truW w h1 with
  | some true => .ok w h1
  | some false => fb ρ h1
  | none => .no
theorem se_orT (hK : X.K = B.G.K) {rest : List Expr} (ha : SE X B a fa) (hb : SE X B (.BoolOp .Or (b :: rest) pos) fb) : SE X B (.BoolOp .Or (a :: b :: rest) pos) (eOrT fa fb) :=
  pe_imp (pe_orT ha hb) fun σ H Q ⟨m, h, ρ, s, o⟩ => ⟨m, h, ρ, s, (Out.bind s.rh o).mono fun v H1 ⟨w, m1, h1, r1, v1, q1, o1⟩ => by
    cases c : truW w h1 with
    | none => rw [c] at o1; exact o1.elim
    | some d =>
      rw [c] at o1
      refine ⟨d, by rw [hK]; exact tru_ok r1 q1 c, ?_⟩
      cases d with
      | true => rw [if_pos rfl]; exact o1 m1 H1 _ r1 Mv.refl q1
      | false => rw [if_neg (by decide)]; exact ⟨m1, h1, ρ, s.mv r1 v1, o1⟩⟩
def bools : List W → Option (List Bool)
  | [] => some []
  | .bl b :: r => match bools r with
    | some bs => some (b :: bs)
    | none => none
  | _ :: _ => none
theorem bools_ok {G : GC} {m : Nat → Addr} {n : Nat} {H : Hp} : ∀ {ws : List W} {bs : List Bool} {vs : List V}, bools ws = some bs → RWs G m n H ws vs → vs = bs.map V.bl
  | [], bs, vs, e, r => by cases e; cases r; rfl
  | w :: ws, bs, vs, e, r => by
    cases w <;> try (cases e; done)
    simp only [bools] at e
    split at e
    · rename_i bs' e'
      cases e
      cases r with
      | cons a b => rw [asB_ok a, bools_ok e' b]; rfl
    · cases e
def bAllAny (f : List Bool → Bool) : List W → Hpe → Res W
  | [.ref n], h => match rdL h n with
    | some ws => match bools ws with
      | some bs => .ok (.bl (f bs)) h
      | none => .no
    | none => .no
  | _, _ => .no
theorem cs_allAny {G : GC} {f : List Bool → Bool} : ClS G (fun vs H Q => ∃ (a : Addr) (bs : List Bool), vs = [V.ref a] ∧ SqL G.K H a (bs.map V.bl) ∧ Q (.bl (f bs)) H) (bAllAny f) := by
  intro cl Wx m h H ws vs Q rh r o
  match ws, o with
  | [.ref n], o =>
    obtain ⟨v, rfl, rv⟩ := rws_one r
    obtain ⟨rfl, hn⟩ := rw_ref rv
    simp only [bAllAny] at o
    split at o
    · rename_i ws e
      obtain ⟨xs, s, q⟩ := rh.rd hn e
      split at o
      · rename_i bs eb
        exact ⟨_, bs, rfl, by rw [← bools_ok eb q]; exact s, o m H _ rh Mv.refl (.bl _)⟩
      · exact o.elim
    · exact o.elim
theorem se_all (hK : X.K = B.G.K) (hc : X.calm = true) (hm : X.mg "all" = none) (hg : Gl X "all") (ha : SA X B [e] fs) (h3 : starEach [e] X.env = (false, eval e X.env) :: starEach [] X.env) (h4 : (backTo pos (starEach [] X.env)).any (·.1) = false) : SE X B (.Call (.Name "all" p) [e] [] pos) (eBl (bAllAny fun bs => bs.all id) fs) :=
  se_bl' (r := rAll B.G.K) (by rw [← hK]; exact cr_all hc) cs_allAny hg hm (by decide +kernel) ha (by decide) (by decide) h3 h4
def srcZ (a b : W) : Src := fun h i => match rdS a h, rdS b h with
  | some xs, some ys => match xs[i]?, ys[i]? with
    | some x, some y => some (some (.tup [x, y]))
    | _, _ => some none
  | _, _ => none
def srcE (a : W) : Src := fun h i => match rdS a h with
  | some xs => match xs[i]? with
    | some x => some (some (.tup [.int (i : Nat), x]))
    | _ => some none
  | _ => none
def srcV (a : W) (n : Nat) : Src := fun h i => bif Nat.blt i n then (match rdS a h with
  | some xs => match xs[n - 1 - i]? with
    | some x => some (some x)
    | none => none
  | none => none) else some none
def srcET (xs : List W) : Src := fun _ i => match xs[i]? with
  | some x => some (some (.tup [.int (i : Nat), x]))
  | none => bif Nat.beq xs.length i then some none else none
theorem pair_new {G : GC} {m : Nat → Addr} {h : Hpe} {H : Hp} {T : Addr} {w1 w2 : W} {x y : V} (rh : RH G m h H) (hT : H T = none) (r1 : RW G m h.nx H w1 x) (r2 : RW G m h.nx H w2 y) :
    RH G m h (upd H T (.tup [x, y])) ∧ Mv m h.nx H m h.nx (upd H T (.tup [x, y])) ∧ RW G m h.nx (upd H T (.tup [x, y])) (.tup [w1, w2]) (.ref T) := by
  obtain ⟨a, b⟩ := rh.tupNew (ho := .tup [x, y]) hT
  have t := b.tupk rh
  exact ⟨a, b, .tup (SqT.of upd_same) (.cons (r1.mono (fun _ _ => rfl) (Nat.le_refl _) t) (.cons (r2.mono (fun _ _ => rfl) (Nat.le_refl _) t) .nil))⟩
theorem blt_f {a b : Nat} (h : Nat.blt a b = false) : b ≤ a := Nat.not_lt.mp fun z => by
  have : Nat.blt a b = true := Nat.ble_eq_true_of_le z
  rw [h] at this; cases this
theorem none_len {ws : List W} {i : Nat} (h : ws[i]? = none) : ws.length ≤ i := List.getElem?_eq_none_iff.mp h
theorem its_zipL {G : GC} {m : Nat → Addr} {n k l : Nat} {H : Hp} (hk : k < n) (hl : l < n) : ItS G m n H (srcZ (.ref k) (.ref l)) (Itz G.K (m k) (m l)) := by
  intro m' h' H' j rh old le tk kf
  simp only [srcZ, rdS]
  cases e1 : rdL h' k with
  | none => exact ⟨fun z => (by cases z), fun w z => (by cases z)⟩
  | some xs =>
    cases e2 : rdL h' l with
    | none => exact ⟨fun z => (by cases z), fun w z => (by cases z)⟩
    | some ys =>
      obtain ⟨us, s1, q1⟩ := rh.rd (Nat.lt_of_lt_of_le hk le) e1
      obtain ⟨vs, s2, q2⟩ := rh.rd (Nat.lt_of_lt_of_le hl le) e2
      rw [old k hk] at s1
      rw [old l hl] at s2
      simp only
      cases c1 : xs[j]? with
      | none => exact ⟨fun _ => ⟨us, vs, s1, s2, .inl (by rw [← q1.len]; exact none_len c1)⟩, fun w z => (by cases z)⟩
      | some x =>
        cases c2 : ys[j]? with
        | none => exact ⟨fun _ => ⟨us, vs, s1, s2, .inr (by rw [← q2.len]; exact none_len c2)⟩, fun w z => (by cases z)⟩
        | some y =>
          obtain ⟨u, a1, b1⟩ := q1.get c1
          obtain ⟨v, a2, b2⟩ := q2.get c2
          refine ⟨fun z => (by cases z), fun w z => ?_⟩
          cases z
          refine ⟨⟨us, vs, u, v, s1, s2, a1, a2⟩, fun x' H'' yl => ?_⟩
          obtain ⟨T, p, r, rfl, hT, rfl, f1, f2⟩ := yl
          have := f1 us s1; rw [a1] at this; cases this
          have := f2 vs s2; rw [a2] at this; cases this
          exact pair_new rh hT b1 b2
theorem its_zipT {G : GC} {m : Nat → Addr} {n : Nat} {H : Hp} {a b : Addr} {us vs : List V} {xs ys : List W} (s1 : SqT G.K H a us) (q1 : RWs G m n H xs us) (s2 : SqT G.K H b vs) (q2 : RWs G m n H ys vs) : ItS G m n H (srcZ (.tup xs) (.tup ys)) (RZ.ItzT G.K a b) := by
  intro m' h' H' j rh old le tk kf
  have s1' := tk.seq s1
  have s2' := tk.seq s2
  have q1' := q1.mono old le tk
  have q2' := q2.mono old le tk
  simp only [srcZ, rdS]
  cases c1 : xs[j]? with
  | none => exact ⟨fun _ => ⟨us, vs, s1', s2', .inl (by rw [← q1.len]; exact none_len c1)⟩, fun w z => (by cases z)⟩
  | some x =>
    cases c2 : ys[j]? with
    | none => exact ⟨fun _ => ⟨us, vs, s1', s2', .inr (by rw [← q2.len]; exact none_len c2)⟩, fun w z => (by cases z)⟩
    | some y =>
      obtain ⟨u, a1, b1⟩ := q1'.get c1
      obtain ⟨v, a2, b2⟩ := q2'.get c2
      refine ⟨fun z => (by cases z), fun w z => ?_⟩
      cases z
      refine ⟨⟨us, vs, u, v, s1', s2', a1, a2⟩, fun x' H'' yl => ?_⟩
      obtain ⟨T, p, r, rfl, hT, rfl, f1, f2⟩ := yl
      have := f1 us s1'; rw [a1] at this; cases this
      have := f2 vs s2'; rw [a2] at this; cases this
      exact pair_new rh hT b1 b2
theorem its_enL {G : GC} {m : Nat → Addr} {n k : Nat} {H : Hp} (hk : k < n) : ItS G m n H (srcE (.ref k)) (Ite G.K (m k)) := by
  intro m' h' H' j rh old le tk kf
  simp only [srcE, rdS]
  cases e1 : rdL h' k with
  | none => exact ⟨fun z => (by cases z), fun w z => (by cases z)⟩
  | some xs =>
    obtain ⟨us, s1, q1⟩ := rh.rd (Nat.lt_of_lt_of_le hk le) e1
    rw [old k hk] at s1
    simp only
    cases c1 : xs[j]? with
    | none => exact ⟨fun _ => ⟨us, s1, by rw [← q1.len]; exact none_len c1⟩, fun w z => (by cases z)⟩
    | some x =>
      obtain ⟨u, a1, b1⟩ := q1.get c1
      refine ⟨fun z => (by cases z), fun w z => ?_⟩
      cases z
      refine ⟨⟨us, u, s1, a1⟩, fun x' H'' yl => ?_⟩
      obtain ⟨T, p, rfl, hT, rfl, f1⟩ := yl
      have := f1 us s1; rw [a1] at this; cases this
      exact pair_new rh hT (.int _) b1
theorem its_enT {G : GC} {m : Nat → Addr} {n : Nat} {H : Hp} {a : Addr} {us : List V} {xs : List W} (s1 : SqT G.K H a us) (q1 : RWs G m n H xs us) : ItS G m n H (srcET xs) (DL.IteT G.K a) := by
  intro m' h' H' j rh old le tk kf
  have s1' := tk.seq s1
  have q1' := q1.mono old le tk
  simp only [srcET]
  cases c1 : xs[j]? with
  | none =>
    cases c : Nat.beq xs.length j with
    | false => exact ⟨fun z => (by cases z), fun w z => (by cases z)⟩
    | true => exact ⟨fun _ => ⟨us, s1', by rw [← q1.len]; exact beq_eq c⟩, fun w z => (by cases z)⟩
  | some x =>
    obtain ⟨u, a1, b1⟩ := q1'.get c1
    refine ⟨fun z => (by cases z), fun w z => ?_⟩
    cases z
    refine ⟨⟨us, u, s1', a1⟩, fun x' H'' yl => ?_⟩
    obtain ⟨T, p, rfl, hT, rfl, f1⟩ := yl
    have := f1 us s1'; rw [a1] at this; cases this
    exact pair_new rh hT (.int _) b1
theorem its_rvL {G : GC} {m : Nat → Addr} {n k l : Nat} {H : Hp} (hk : k < n) : ItS G m n H (srcV (.ref k) l) (Itv G.K (m k) l) := by
  intro m' h' H' j rh old le tk kf
  simp only [srcV, rdS]
  cases c : Nat.blt j l with
  | false => exact ⟨fun _ => blt_f c, fun w z => (by cases z)⟩
  | true =>
    simp only [cond_true]
    cases e1 : rdL h' k with
    | none => exact ⟨fun z => (by cases z), fun w z => (by cases z)⟩
    | some xs =>
      obtain ⟨us, s1, q1⟩ := rh.rd (Nat.lt_of_lt_of_le hk le) e1
      rw [old k hk] at s1
      simp only
      cases c1 : xs[l - 1 - j]? with
      | none => exact ⟨fun z => (by cases z), fun w z => (by cases z)⟩
      | some x =>
        obtain ⟨u, a1, b1⟩ := q1.get c1
        refine ⟨fun z => (by cases z), fun w z => ?_⟩
        cases z
        refine ⟨⟨Nat.le_of_ble_eq_true c, us, u, s1, a1⟩, fun x' H'' ⟨e, yl⟩ => ?_⟩
        subst e
        have := yl us s1; rw [a1] at this; cases this
        exact ⟨rh, Mv.refl, b1⟩
theorem its_rvT {G : GC} {m : Nat → Addr} {n l : Nat} {H : Hp} {a : Addr} {us : List V} {xs : List W} (s1 : SqT G.K H a us) (q1 : RWs G m n H xs us) : ItS G m n H (srcV (.tup xs) l) (RT.ItvT G.K a l) := by
  intro m' h' H' j rh old le tk kf
  have s1' := tk.seq s1
  have q1' := q1.mono old le tk
  simp only [srcV, rdS]
  cases c : Nat.blt j l with
  | false => exact ⟨fun _ => blt_f c, fun w z => (by cases z)⟩
  | true =>
    simp only [cond_true]
    cases c1 : xs[l - 1 - j]? with
    | none => exact ⟨fun z => (by cases z), fun w z => (by cases z)⟩
    | some x =>
      obtain ⟨u, a1, b1⟩ := q1'.get c1
      refine ⟨fun z => (by cases z), fun w z => ?_⟩
      cases z
      refine ⟨⟨Nat.le_of_ble_eq_true c, us, u, s1', a1⟩, fun x' H'' ⟨e, yl⟩ => ?_⟩
      subst e
      have := yl us s1'; rw [a1] at this; cases this
      exact ⟨rh, Mv.refl, b1⟩
def iZ (fs : FA) : FI := fun ρ h => (fs ρ h).bind fun ws h1 => match ws with
  | [.ref k, .ref l] => match rdL h1 k, rdL h1 l with
    | some _, some _ => .ok (srcZ (.ref k) (.ref l)) h1
    | _, _ => .no
  | [.tup xs, .tup ys] => .ok (srcZ (.tup xs) (.tup ys)) h1
  | _ => .no
theorem si_zip {elts : List Expr} {kk : Nat} (hK : X.K = B.G.K) (hg : Gl X "zip") (hm : X.mg "zip" = none) (ha : SA X B [a, b] fs) (hs : starEach [a, b] X.env = (false, eval a X.env) :: starEach [b] X.env) (hpl : (backTo pos (starEach [b] X.env)).any (·.1) = false) :
    SI X B (.Tuple elts kk tpos) (.Call (.Name "zip" p) [a, b] [] pos) (iZ fs) :=
  pi_imp (RZ.pi_zipA hg hm ha hs hpl) fun σ H R ⟨m, h, ρ, s, o⟩ => ⟨m, h, ρ, s, (Out.bind s.rh o).mono fun vs H1 ⟨ws, m1, h1, r1, v1, q1, o1⟩ => by
    match ws, o1 with
    | [.ref k, .ref l], o1 =>
      obtain ⟨v, u, rfl, ra, rb⟩ := rws_two q1
      obtain ⟨rfl, hk⟩ := rw_ref ra
      obtain ⟨rfl, hl⟩ := rw_ref rb
      simp only at o1
      split at o1
      · rename_i xs ys e1 e2
        obtain ⟨us, s1, _⟩ := r1.rd hk e1
        obtain ⟨vs, s2, _⟩ := r1.rd hl e2
        exact ⟨_, _, us, vs, rfl, .inl ⟨by rw [hK]; exact s1, by rw [hK]; exact s2, by rw [hK]; exact o1 m1 H1 _ r1 Mv.refl (its_zipL hk hl)⟩⟩
      · exact o1.elim
    | [.tup xs, .tup ys], o1 =>
      obtain ⟨v, u, rfl, ra, rb⟩ := rws_two q1
      obtain ⟨a, us, rfl, s1, z1⟩ := rw_tup ra
      obtain ⟨b, vs, rfl, s2, z2⟩ := rw_tup rb
      exact ⟨a, b, us, vs, rfl, .inr ⟨by rw [hK]; exact s1, by rw [hK]; exact s2, by rw [hK]; exact o1 m1 H1 _ r1 Mv.refl (its_zipT s1 z1 s2 z2)⟩⟩⟩
def iEL (fs : FA) : FI := fun ρ h => (fs ρ h).bind fun ws h1 => match ws with
  | [.ref k] => match rdL h1 k with
    | some _ => .ok (srcE (.ref k)) h1
    | _ => .no
  | _ => .no
theorem si_enL {elts : List Expr} {kk : Nat} (hK : X.K = B.G.K) (hg : Gl X "enumerate") (hm : X.mg "enumerate" = none) (ha : SA X B [e] fs) (hs : starEach [e] X.env = [(false, eval e X.env)]) : SI X B (.Tuple elts kk tpos) (.Call (.Name "enumerate" p) [e] [] pos) (iEL fs) :=
  pi_imp (pi_enum hg hm ha hs) fun σ H R ⟨m, h, ρ, s, o⟩ => ⟨m, h, ρ, s, (Out.bind s.rh o).mono fun vs H1 ⟨ws, m1, h1, r1, v1, q1, o1⟩ => by
    match ws, o1 with
    | [.ref k], o1 =>
      obtain ⟨v, rfl, ra⟩ := rws_one q1
      obtain ⟨rfl, hk⟩ := rw_ref ra
      simp only at o1
      split at o1
      · rename_i xs e1
        obtain ⟨us, s1, _⟩ := r1.rd hk e1
        exact ⟨_, us, rfl, by rw [hK]; exact s1, by rw [hK]; exact o1 m1 H1 _ r1 Mv.refl (its_enL hk)⟩
      · exact o1.elim⟩
def iET (fs : FA) : FI := fun ρ h => (fs ρ h).bind fun ws h1 => match ws with
  | [.tup xs] => .ok (srcET xs) h1
  | _ => .no
theorem si_enT {elts : List Expr} {kk : Nat} (hK : X.K = B.G.K) (hg : Gl X "enumerate") (hm : X.mg "enumerate" = none) (ha : SA X B [e] fs) (hs : starEach [e] X.env = [(false, eval e X.env)]) : SI X B (.Tuple elts kk tpos) (.Call (.Name "enumerate" p) [e] [] pos) (iET fs) :=
  pi_imp (DL.pi_enumT hg hm ha hs) fun σ H R ⟨m, h, ρ, s, o⟩ => ⟨m, h, ρ, s, (Out.bind s.rh o).mono fun vs H1 ⟨ws, m1, h1, r1, v1, q1, o1⟩ => by
    match ws, o1 with
    | [.tup xs], o1 =>
      obtain ⟨v, rfl, ra⟩ := rws_one q1
      obtain ⟨a, us, rfl, s1, z1⟩ := rw_tup ra
      exact ⟨a, us, rfl, by rw [hK]; exact s1, by rw [hK]; exact o1 m1 H1 _ r1 Mv.refl (its_enT s1 z1)⟩⟩
def iRv (f : FE) : FI := fun ρ h => (f ρ h).bind fun w h1 => match rdS w h1 with
  | some ws => .ok (srcV w ws.length) h1
  | none => .no
theorem si_rev (hK : X.K = B.G.K) (hg : Gl X "reversed") (hm : X.mg "reversed" = none) (he : SE X B e f) (hs : starEach [e] X.env = (false, eval e X.env) :: starEach [] X.env) : SI X B tg (.Call (.Name "reversed" p) [e] [] pos) (iRv f) :=
  pi_imp (RT.pi_revA hg hm he hs) fun σ H R ⟨m, h, ρ, s, o⟩ => ⟨m, h, ρ, s, (Out.bind s.rh o).mono fun v H1 ⟨w, m1, h1, r1, v1, q1, o1⟩ => by
    cases w <;> try exact o1.elim
    · rename_i ws
      obtain ⟨a, us, rfl, s1, z1⟩ := rw_tup q1
      exact ⟨a, us, rfl, .inr ⟨by rw [hK]; exact s1, by rw [hK, ← z1.len]; exact o1 m1 H1 _ r1 Mv.refl (its_rvT s1 z1)⟩⟩
    · rename_i k
      obtain ⟨rfl, hk⟩ := rw_ref q1
      simp only [rdS] at o1
      split at o1
      · rename_i ws e1
        obtain ⟨us, s1, z1⟩ := r1.rd hk e1
        exact ⟨_, us, rfl, .inl ⟨by rw [hK]; exact s1, by rw [hK, ← z1.len]; exact o1 m1 H1 _ r1 Mv.refl (its_rvL hk)⟩⟩
      · exact o1.elim⟩
end
end EV
namespace EV
open PySem PySem.Spec PyProof.Rows L2
open Sem (wp)
theorem kept_take {α : Type} (sel : Int → Int → Int → Nat → Bool) (hsel : ∀ a b k, sel a b 1 k = (decide (a ≤ (k : Int)) && decide ((k : Int) < b) && (((k : Int) - a) % 1 == 0))) (st n : Nat) : ∀ (xs : List α) (j : Nat), j + xs.length = n →
    ((xs.zipIdx j).filterMap fun (x, k) => if sel (st : Int) (n : Int) 1 k = true then none else some x) = xs.take (st - j)
  | [], j, _ => by simp
  | x :: xs, j, h => by
    rw [List.zipIdx_cons, List.filterMap_cons]
    have ih := kept_take sel hsel st n xs (j + 1) (by simp at h; omega)
    have hj : j < n := by simp at h; omega
    by_cases c : st ≤ j
    · have e : sel (st : Int) (n : Int) 1 j = true := by
        rw [hsel, Int.emod_one]
        simp only [Bool.and_eq_true, decide_eq_true_eq]
        exact ⟨⟨by omega, by omega⟩, by decide⟩
      simp only [e, if_true]
      rw [ih, show st - j = 0 by omega, show st - (j + 1) = 0 by omega]
      simp
    · have e : sel (st : Int) (n : Int) 1 j = false := by
        rw [hsel, decide_eq_false (by omega)]
        rfl
      simp only [e, Bool.false_eq_true, if_false]
      rw [ih, show st - j = (st - (j + 1)) + 1 by omega, List.take_succ_cons]
section
variable {prog : Program} {w : World} {A : Around} {E : Value → Shared → Prop} {s : Shared}
theorem delItem_list_from {l sl : Addr} {items : Array Value} {n : Nat} {vl vu vs : Value} {lo : Option Int} {Q : Unit → Shared → Prop} (hl : s.heap.get? l = some { cls := .type "list", data := .seq items n })
    (hs : s.heap.IsSliceOf sl vl vu vs) (pl : IsPart vl lo) (pu : IsPart vu none) (ps : IsPart vs none)
    (h : ∀ f : Array Value → Array Value, f items = (items.toList.take (HT.sIx items.size 0 lo)).toArray → Q () { s with heap := s.heap.update l (Obj.mapSeq f) })
    (hsz : items.size ≤ sizeLine) : wpAny (model prog w) A (delItem (.ref l) (.ref sl)) Q E s := by
  obtain ⟨os, hos, hcs, hds⟩ := id hs
  have hTs : s.TypeIs (.ref sl) "slice" := ⟨os, hos, hcs⟩
  have hTl : s.TypeIs (.ref l) "list" := ⟨_, hl, rfl⟩
  refine wpAny_delItem_slot hTl (by decide) F.slot_list_delitem ?_
  refine wpAny_call_entry F.slot_list_delitem hTl F.entry_list_delitem ?_ (F.args_list_delitem_2 _ _)
  show wpAny _ _ (Builtin.List.listSubscript? (.ref sl) >>= _) _ _ s
  refine wpAny_bind ?_
  unfold Builtin.List.listSubscript?
  refine wpAny_bind (wpAny_specialOf hTs slice_no_index ?_)
  simp only [Option.isNone_none, if_true]
  refine wpAny_pure ?_
  show wpAny _ _ (typeOf (.ref sl) >>= _) _ _ s
  refine wpAny_bind (wpAny_typeOf hTs ?_)
  rw [if_neg (by decide)]
  rw [listSliceParts_eq]
  have hstep : ¬ ((rawPart none == rawInt 0) = true) := Bool.false_ne_true
  refine wpAny_bind (wpAny_bind (wpAny_field hos hds (x := vs) rfl (wpAny_bind (wpAny_listPart ps ?_))))
  rw [if_neg hstep]
  refine wpAny_bind (wpAny_field hos hds (x := vl) rfl (wpAny_bind (wpAny_listPart pl ?_)))
  refine wpAny_bind (wpAny_field hos hds (x := vu) rfl (wpAny_bind (wpAny_listPart pu (wpAny_pure ?_))))
  refine wpAny_bind (m := Builtin.List.listItems (.ref l)) ?_
  unfold Builtin.List.listItems
  refine wpAny_bind (wpAny_seqItems hl rfl (wpAny_pure ?_))
  refine wpAny_bind (wpAny_of_eq (sliceIndices_raw lo none none items.size (by simp)) ?_)
  obtain ⟨b1, b2, b3⟩ := slice_bounds lo none items.size
  refine wpAny_bind (wpAny_rule ?_)
  rw [b1, b2, b3]
  have kept := fun (sel : Int → Int → Int → Nat → Bool) hsel => kept_take (α := Value) sel hsel (HT.sIx items.size 0 lo) (HT.sIx items.size items.size none) items.toList 0 (by simp [HT.sIx])
  refine wpAny_bind (m := Builtin.List.listUpdate (.ref l) _) (wpAny_updateSeq hl rfl (wpAny_bind (wpAny_letGo (wpAny_pure ⟨_, rfl, ?_⟩))) hsz ?_)
  · refine h _ ?_
    exact congrArg List.toArray ((kept _ (fun _ _ _ => rfl)).trans (by rw [Nat.sub_zero]))
  · refine Nat.le_trans (Nat.le_of_eq (congrArg (fun l : List Value => l.toArray.size) (kept _ (fun _ _ _ => rfl)))) ?_
    rw [List.size_toArray, List.length_take]
    have : items.toList.length = items.size := by simp
    omega
end
section
variable {X : Cx} {B : Bx} {e o : Expr} {f fo : FE} {pos tpos p2 : Pos}
def tDelS (to : TE) (tl : TO) : TS := fun D σ H => to σ H fun x H1 => tl σ H1 fun lo H2 => ∃ (l : Addr) (xs : List V), x = .ref l ∧ H2 l = some (.lst xs) ∧ D.nx σ (upd H2 l (.lst (xs.take (HT.sIx xs.length 0 lo))))
theorem ps_delS {to : TE} {tl : TO} {lo : Option Expr} (ho : PE X o to) (hl : PO X lo tl) : PS X (.Delete [.Subscript o (.Slice lo none none p2) tpos] pos) (tDelS to tl) := by
  refine ⟨fun pins s σ H D I h => ?_⟩
  refine wpAny_Delete (wpAny_deleteEach_cons (wpAny_delete_Subscript (thn (ho.run pins s σ H _ I h) fun u s1 ⟨x, H1, I1, rx, q1⟩ => ?_)))
  refine wpAny_Slice (thn (hl.run pins s1 σ H1 _ I1 q1) fun vl s2 ⟨lo, H2, I2, pl, q2⟩ => thn (po_none.run pins s2 σ H2 (fun x H => x = none ∧ H = H2) I2 ⟨rfl, rfl⟩) fun vu s3 ⟨hi, H3, I3, pu, q3⟩ => ?_)
  obtain ⟨rfl, rfl⟩ := q3
  rw [evalPart_none]
  refine wpAny_pure ?_
  have I4 : Inv X pins σ H3 { s3 with heap := s3.heap.push { cls := .type "slice", data := .fields #[vl, vu, .none] } } := I3.kept (t' := s3.toks) fun b ob q => Heap.get?_push_of_some _ q
  obtain ⟨l, xs, rfl, hH, q⟩ := q2
  cases (show u = Value.ref l from rx)
  obtain ⟨z, its, n, r, hlen, e4⟩ := I4.lstM hH
  refine delItem_list_from (items := its.toArray) e4 (Heap.IsSliceOf.new ..) pl pu .none (fun f hf => ?_) (by rw [List.size_toArray, ← hlen]; exact z)
  have I5 := I4.lset (its' := its.take (HT.sIx xs.length 0 lo)) (ys := xs.take (HT.sIx xs.length 0 lo)) (t' := s3.toks) (f := f) hH e4 (by rw [hf, List.size_toArray, ← hlen]) (r.take _) (by rw [List.length_take]; omega)
  exact wpAny_deleteEach_nil ⟨σ, _, I5, q⟩
def sDl (fo : FE) (fl : FO) : FS := fun ρ h => bindS (fo ρ h) ρ fun w h1 => bindS (fl ρ h1) ρ fun lo h2 => match w with
  | .ref n => match h2.get n with
    | some (.lst ws) => .nx ρ (h2.set n (.lst (ws.take (HT.sIx ws.length 0 lo))))
    | _ => .no
  | _ => .no
theorem ss_delS {lo : Option Expr} {fl : FO} (ho : SE X B o fo) (hl : SO X B lo fl) : SSt X B (.Delete [.Subscript o (.Slice lo none none p2) tpos] pos) (sDl fo fl) :=
  ps_imp (ps_delS ho hl) fun D σ H ⟨m, h, ρ, s, o⟩ => ⟨m, h, ρ, s, (OutS.bind s o).mono fun v H1 ⟨w, m1, h1, r1, v1, q1, o1⟩ => ⟨m1, h1, ρ, s.mv r1 v1, (OutS.bind (s.mv r1 v1) o1).mono fun lo H2 ⟨lo', m2, h2, r2, v2, q2, o2⟩ => by
    subst q2
    have q1' := q1.mono v2.old v2.le (v2.tupk r1)
    cases w <;> try exact o2.elim
    rename_i n
    obtain ⟨rfl, hn⟩ := rw_ref q1'
    simp only at o2
    split at o2
    · rename_i ws e
      obtain ⟨xs, e1, q⟩ := r2.lst hn e
      obtain ⟨r3, v3⟩ := r2.store hn (.lst (q.take (HT.sIx ws.length 0 lo')))
      refine ⟨_, xs, rfl, e1, ?_⟩
      rw [← q.len]
      exact o2 m2 _ σ (((s.mv r1 v1).mv r2 v2).mv r3 v3) v3
    · exact o2.elim⟩⟩
def mRev : W → List W → Hpe → Res W
  | .ref n, [], h => match h.get n with
    | some (.lst ws) => .ok .non (h.set n (.lst ws.reverse))
    | _ => .no
  | _, _, _ => .no
theorem ms_rev {G : GC} : MtS G "list" rReverse chkL mRev := by
  refine ⟨fun m h H w v rh r c => chkL_ok rh r c, fun cl Wx m h H w ws v vs Q rh r rs o => ?_⟩
  match w, ws, o with
  | .ref n, [], o =>
    obtain ⟨rfl, hn⟩ := rw_ref r
    obtain rfl := rws_nil rs
    simp only [mRev] at o
    split at o
    · rename_i zs e
      obtain ⟨xs, e1, q⟩ := rh.lst hn e
      exact ⟨_, xs, rfl, rfl, e1, st_ok rh hn o (.lst q.rev) fun _ _ => .non⟩
    · exact o.elim
end
end EV
namespace EV
open PySem PySem.Spec PyProof.Rows L2
inductive BT where
  | lf | nd (o : Option (List W → Hpe → Res W)) (l r : BT)
noncomputable def BT.get (t : BT) : Nat → List W → Hpe → Res W :=
  BT.rec (motive := fun _ => Nat → List W → Hpe → Res W) (fun _ _ _ => .no) (fun o _ _ gl gr n => bif Nat.beq n 0 then (match o with
      | some f => f
      | none => fun _ _ => .no) else bif Nat.beq (n % 2) 1 then gl (n / 2) else gr (n / 2 - 1)) t
section
variable {X : Cx} {B : Bx} {a b : Expr} {fa fb : FE} {ft : FT} {pos : Pos}
def eNtT (f : FE) : FE := fun ρ h => (f ρ h).bind fun w h1 => match truW w h1 with
  | some b => .ok (.bl (!b)) h1
  | none => .no
theorem se_notT (hK : X.K = B.G.K) (ha : SE X B a fa) : SE X B (.UnaryOp .Not a pos) (eNtT fa) :=
  pe_imp (pe_notT ha) fun σ H Q ⟨m, h, ρ, s, o⟩ => ⟨m, h, ρ, s, (Out.bind s.rh o).mono fun v H1 ⟨w, m1, h1, r1, v1, q1, o1⟩ => by
    cases c : truW w h1 with
    | none => rw [c] at o1; exact o1.elim
    | some d => rw [c] at o1; exact ⟨d, by rw [hK]; exact tru_ok r1 q1 c, o1 m1 H1 _ r1 Mv.refl (.bl _)⟩⟩
def cM (k : Int) (n : Nat) : Bool := decide (-1000000 ≤ k) && decide (k ≤ 1000) && Nat.ble n 1000
def gMul : W → W → Hpe → Res W
  | .int i, .int j, h => bif cMul i j then .ok (.int (i * j)) h else .no
  | .tup ws, .int k, h => bif cM k ws.length then .ok (.tup (List.replicate k.toNat ws).flatten) h else .no
  | .ref n, .int k, h => match h.get n with
    | some (.lst ws) => bif cM k ws.length then h.al (.lst (List.replicate k.toNat ws).flatten) else .no
    | _ => .no
  | _, _, _ => .no
abbrev rMulE (K : PySem.W.Frag) : R2 := fun x y H Q => (rI CMul fun i j => .int (i * j)) x y H Q ∨ (DL.rMulT K x y H Q ∨ rRep x y H Q)
theorem op_mulE : OpR X (binaryOp .Mult) (rMulE X.K) := OpR.or op_mul (OpR.or DL.op_mulT op_rep)
theorem os_mul {G : GC} : OpS G (rMulE G.K) gMul := by
  intro cl Wx m h H a b x y Q rh ra rb o
  cases b <;> try (cases a <;> exact o.elim)
  rename_i k
  obtain rfl := rw_int rb
  cases a <;> try exact o.elim
  · rename_i i
    obtain rfl := rw_int ra
    simp only [gMul] at o
    cases c : cMul i k with
    | false => rw [c] at o; exact o.elim
    | true => rw [c] at o; exact .inl ⟨i, k, rfl, rfl, cMul_ok i k c, o m H _ rh Mv.refl (.int _)⟩
  · rename_i ws
    obtain ⟨a, xs, rfl, s, q⟩ := rw_tup ra
    simp only [gMul] at o
    cases c : cM k ws.length with
    | false => rw [c] at o; exact o.elim
    | true =>
      rw [c] at o
      have o : Out G cl (RW G) Wx m h H (.ok (.tup (List.replicate k.toNat ws).flatten) h) Q := o
      have c' := c
      simp only [cM, Bool.and_eq_true, decide_eq_true_eq] at c'
      have c3 : ws.length ≤ 1000 := Nat.le_of_ble_eq_true c'.2
      refine .inr (.inl ⟨a, k, xs, rfl, rfl, s, c'.1.1, c'.1.2, by rw [← q.len]; exact c3, fun z => ?_, fun _ _ p hp => tup_ok rh o (q.rep _) p hp⟩)
      have e : (List.replicate k.toNat ws).flatten = ws := by
        rcases z with z | z
        · subst z
          have : ws = [] := List.eq_nil_of_length_eq_zero (by rw [q.len]; rfl)
          rw [this]
          induction k.toNat with
          | zero => rfl
          | succ n ih => rw [List.replicate_succ, List.flatten_cons, ih]; rfl
        · rw [z]
          show ([ws] : List (List W)).flatten = ws
          simp
      rw [e] at o
      exact o m H _ rh Mv.refl (.tup s q)
  · rename_i n
    obtain ⟨rfl, hn⟩ := rw_ref ra
    simp only [gMul] at o
    split at o
    · rename_i ws e
      obtain ⟨xs, e1, q⟩ := rh.lst hn e
      cases c : cM k ws.length with
      | false => rw [c] at o; exact o.elim
      | true =>
        rw [c] at o
        have c' := c
        simp only [cM, Bool.and_eq_true, decide_eq_true_eq] at c'
        have c3 : ws.length ≤ 1000 := Nat.le_of_ble_eq_true c'.2
        refine .inr (.inr ⟨_, k, xs, rfl, rfl, e1, by omega, by omega, ?_, al_ok rh o (.lst (q.rep _))⟩)
        rw [← q.len]
        have h1 : k.toNat ≤ 1000 := by omega
        have h2 : ws.length * k.toNat ≤ 1000 * 1000 := Nat.mul_le_mul c3 h1
        exact Nat.le_trans h2 (by decide)
    · exact o.elim
theorem se_mul (hK : X.K = B.G.K) (ha : SE X B a fa) (hb : SE X B b fb) : SE X B (.BinOp a .Mult b pos) (e2 gMul fa fb) := se_op (r := rMulE B.G.K) (by rw [← hK]; exact op_mulE) os_mul ha hb
end
end EV
namespace EV
open PySem PySem.Spec PyProof.Rows L2
structure ExE (K : PySem.W.Frag) (mg : Str → Option Value) (cl : Cls) (x : Str) (k : Nat) : Prop where
  ex : ∃ C bmB Bn newId initId, ExcBaseFacts Bn newId initId bmB ∧ PySem.W.excIn K C bmB newId = true ∧ mg x = some (.ref C) ∧ cl k = some (.ref C) ∧ PySem.W.keepIn K (.ref C) = true ∧ PySem.W.subIn K (.ref C) (.type "BaseException") = some true ∧ PySem.W.typeIn K (.ref C) = some (.type "type")
structure ExN (K : PySem.W.Frag) (mg : Str → Option Value) (cl : Cls) (x : Str) (k : Nat) : Prop where
  ex : ∃ c, mg x = some c ∧ cl k = some c
  mt : ∀ j c c', cl j = some c → cl k = some c' → PySem.W.exmOne K c c' = some (Nat.beq j k)
section
variable {X : Cx} {B : Bx} {a b c e : Expr} {f f1 f2 fb : FS} {pos pos' p np : Pos} {x : Str} {k : Nat}
def sRs (k : Nat) : FS := fun ρ h => .ex ⟨k, []⟩ ρ h
def RS.noX : RS → RS
  | .ex _ _ _ => .no
  | r => r
theorem OutS.noX {m : Nat → Addr} {h : Hpe} {H : Hp} {D : Ends} {r : RS} (o : OutS B m h H D r.noX) : OutS B.nox m h H D r := by
  cases r with
  | nx ρ' h' => exact o
  | ex x ρ' h' => exact o.elim
  | no => exact o
  | rt w h' => exact o
  | bk ρ' h' => exact o
  | ct ρ' h' => exact o
def hdl : List (Nat × FS) → EV.Exc → FS
  | [], x, ρ, h => .ex x ρ h
  | (k, f) :: r, x, ρ, h => bif Nat.beq x.cls k then (f ρ h).noX else hdl r x ρ h
inductive HE (X : Cx) (B : Bx) : List ExceptHandler → List (Nat × FS) → Prop
  | nil : HE X B [] []
  | cons {x : Str} {k : Nat} {f : FS} {b₀ : Stmt} {suite : List Stmt} {np pos' : Pos} {hds : List ExceptHandler} {l : List (Nat × FS)} (hg : Gl X x) (hdb : (x == ("__debug__" : Str)) = false) (C : ExN X.K X.mg B.cl x k)
      (hsu : ∀ (a : Addr) (oe : Obj) (pn : List (Addr × Obj)), SSs (X.suite a ((a, oe) :: pn)) B.nox (b₀ :: suite) f) (r : HE X B hds l) : HE X B (.ExceptHandler (some (.Name x np)) none (b₀ :: suite) pos' :: hds) ((k, f) :: l)
theorem HE.ok {hds : List ExceptHandler} {l : List (Nat × FS)} (hh : HE X B hds l) : ∃ ls, HdsOk X hds ls ∧ ∀ (D : Ends) (x : EV.Exc) (m : Nat → Addr) (h : Hpe) (ρ : Rho) (σ : L2.St) (H : Hp) (c : Value) (d : Option Addr), SS B.G B.cf m h ρ σ H → ExR B.G B.cl m h.nx H x c d → OutS B m h H D (hdl l x ρ h) → wMany X.K B.W D ls c d σ H := by
  induction hh with
  | nil => exact ⟨[], .nil, fun D x m h ρ σ H c d s r o => o m H σ c d s Mv.refl r⟩
  | @cons x k f b₀ suite np pos' hds l hg hdb C hsu r ih =>
    obtain ⟨ls, h1, h2⟩ := ih
    obtain ⟨cv, hm, hk⟩ := C.ex
    refine ⟨(cv, fun _ _ _ => tS B.nox f) :: ls, .cons ⟨hg, hdb, .inl hm⟩ (fun a oe cls d pn _ _ => hsu a oe pn) h1, fun D x m h ρ σ H c d s rx o => ?_⟩
    refine ⟨_, C.mt x.cls c cv rx.1 hk, fun hb a _ => ⟨m, h, ρ, s, ?_⟩, fun hb => h2 D x m h ρ σ H c d s rx ?_⟩
    · simp only [hdl, hb, cond_true] at o; exact o.noX
    · simp only [hdl, hb, cond_false] at o; exact o
end
end EV
namespace EV
open PySem PySem.Spec PyProof.Rows L2
section
variable {prog : Program} {w : World} {A : Around} {R : Result → Shared → Prop} {a : Addr}
end
section
variable {A : Around} {elt tg iter : Expr} {ifs : List Expr} {scope : Scope} {pos : Pos} {it acc : Value} {env : Env}
end
section
variable {prog : Program} {w : World} {A : Around} {elt tg iter : Expr} {ifs : List Expr} {scope : Scope} {pos : Pos} {it : Value} {cenv : Env}
end
end EV
namespace EV
open PySem PySem.Spec PyProof.Rows L2
section
variable {X : Cx} {pins : List (Addr × Obj)} {σ : L2.St} {H : Hp} {s : Shared}
end
end EV
set_option maxHeartbeats 4000000
namespace EV
open PySem PySem.Spec PyProof.Rows L2 GxR
section
variable {X : Cx} {c P : Addr} {elt tg iter : Expr} {ifs : List Expr} {scope : Scope} {own : List (Str × Nat)} {gpos : Pos} {wi : TI} {g : TG} {tt : TT} {te : TE} {k : Nat}
end
end EV
set_option maxHeartbeats 2000000
namespace EV
open PySem PySem.Spec PyProof.Rows L2 GxR
section
variable {X : Cx} {B : Bx} {tg elt iter : Expr} {ifs : List Expr} {fe : FE} {ft : FT} {fi : FI} {g : FG} {us vs : List Nat} {c P : Addr} {scope : Scope} {own : List (Str × Nat)} {p pos gpos : Pos} {k : Nat}
structure GnC (X : Cx) (B : Bx) (c P : Addr) : Prop where
  tb : TabB X.base X.mg c P
  tab : P ∈ B.G.tabs
  nl : P ∉ B.G.ltabs
end
structure FunC (K : PySem.W.Frag) (x qual : Str) (st : Stmt) (f : Addr) (fd : FuncData) (c : Addr) : Prop where
  ex : ∃ (oc : Value) (od : Option Addr) (kV doc pm : Value) (an : Option Addr) (ct : Value) (osl : Array (Option Value)),
    fd = PySem.W.fnOf x qual (defArgs st) (defBody st) (defScope st) .none kV doc pm an (.ref c) ct ∧ K.lookup f = some ⟨oc, od, .func fd, osl⟩ ∧ PySem.W.codeIn K (.ref c) qual = true
theorem ok_EC {P : Program} {w : World} {K : PySem.W.Frag} {mg : Str → Option Value} {base : Heap} {G : GC} {cl : Cls} {x qual : Str} {st : Stmt} {f : Addr} {fd : FuncData} {c : Addr} {N ps : List Str} {k : Nat} {fs : FS} (F : FunC K x qual st f fd c) (S : FnScope N ps (defScope st))
    (hbody : ∀ (A : Around) (outer : List PySem.Env) (s : Shared) (H : Hp) (E : XK), Room k (A.deeper (envOfC qual (defScope st) s.heap.objs.size f (.ref c))) →
      SSs (cxOf (L2.CX P w) P w K mg base N qual (defScope st) f (.ref c) A outer s H E) ⟨G, cl, fun c d _ H' => E c d H', CfAt G s H (frs outer)⟩ (defBody st) fs) : FnE P w K mg base (k + 1) f fd ps G cl (runB N.length fs) := by
  obtain ⟨oc, od, kV, doc, pm, an, ct, osl, rfl, lk, hcd⟩ := F.ex
  refine ⟨fun A outer s H args us vs Q E hr e0 hb r ⟨m, h, ws, rh, rs, e, o⟩ => ?_⟩
  exact LamX.run_ofS lk hcd S hr e0 hb r (by rw [← rs.len, e]) fun hr' => ⟨_, hbody A outer s H E hr', m, h, _, ss_start rh rs N.length, run_end o⟩
end EV
set_option maxHeartbeats 4000000
namespace EV
open PySem PySem.Spec PyProof.Rows L2
structure BaseE (B newId initId : String) (bm : List Value) : Prop where
  fb : ExcBaseFacts B newId initId bm
  pass : ∀ self : Value, refuseLoop self "__setattr__" bm = pure ()
  obj : bm.contains (.type "object") = true
  ty : typeOf (.type B) = pure (.type "type")
structure OwnE (K : PySem.W.Frag) (C : Addr) (newId : String) (bm : List Value) : Prop where
  cls : ∃ nm q N bs sn sub ab col dd k0 k1 k2 k3 k5, K.lookup C = some (excClassObj nm q C N bs bm true sn sub ab col dd k0 k1 k2 k3 k5 newId)
  sa : PySem.W.findIn K (.ref C) "__setattr__" = some (some (.builtin "object.__setattr__"))
  exC : PySem.W.subIn K (.ref C) (.type "BaseException") = some true
  tyC : PySem.W.typeIn K (.ref C) = some (.type "type")
  kC : PySem.W.keepIn K (.ref C) = true
section
open Builtin Builtin.ObjectAttr
variable {prog : Program} {w : World} {A : Around} {R : Result → Shared → Prop} {hp : Heap} {g : Array GenState} {d : Drawn} {t : Nat} {os : OsState}
end
section
variable {X : Cx} {pins : List (Addr × Obj)} {σ : L2.St} {H : Hp} {s : Shared} {a C dx : Addr} {f : Str} {y : V} {u : Value} {Q : Unit → Shared → Prop} {E : Value → Shared → Prop} {A : Around} {B newId initId : String} {bm : List Value}
end
end EV
namespace EV
open PySem PySem.Spec PyProof.Rows L2
section
variable {X : Cx} {o e : Expr} {es : List Expr} {to te : TE} {ta : TA} {f x : Str} {p p' p1 p2 pos : Pos} {B newId initId : String} {bm : List Value}
end
def spI (C : Addr) (f : Str) : Sp := fun vs H Q _ => ∃ (a : Addr) (i : Int), vs = [.ref a, .int i] ∧ i.natAbs.log2 < 1920 ∧ H a = some (exo a C none) ∧ ∀ dx, H dx = none → dx ≠ a → Q .non (upd (upd H dx (exd dx [(f, .int i)])) a (exo a C (some dx)))
end EV
namespace EV
open PySem PySem.Spec PyProof.Rows L2
structure ExI (P : Program) (w : World) (K : PySem.W.Frag) (mg : Str → Option Value) (base : Heap) (cl : Cls) (x f : Str) (k : Nat) : Prop where
  ex : ∃ C B newId initId bm fI fd ps, BaseE B newId initId bm ∧ OwnE K C newId bm ∧ mg x = some (.ref C) ∧ cl k = some (.ref C) ∧ PySem.W.findIn K (.ref C) "__init__" = some (some (.ref fI)) ∧ PySem.W.typeIn K (.ref fI) = some (.type "function") ∧
    FnOk P w K mg base (L2.CX P w) 1 fI fd ps (spI C f) ∧ Binds K fd ps []
section
variable {X : Cx} {B : Bx} {e : Expr} {es : List Expr} {fs : FA} {p pos pos' : Pos} {x f : Str} {k j : Nat}
end
end EV
namespace EV
open PySem PySem.Spec PyProof.Rows L2
abbrev Cl3 := Value × Option Nat × (Addr → Value → Option Addr → TS)
def endsAs (i : Nat) (D : Ends) : Ends := { nx := fun σ' H' => D.nx (σ'.set i none) H', rt := D.rt, bk := fun σ' H' => D.bk (σ'.set i none) H', ct := fun σ' H' => D.ct (σ'.set i none) H' }
def runC (D : Ends) (a : Addr) (cls : Value) (d : Option Addr) (σ : L2.St) (H : Hp) : Option Nat → (Addr → Value → Option Addr → TS) → Prop
  | none, ts => ts a cls d D σ H
  | some i, ts => ts a cls d (endsAs i D) (σ.set i (some (.ref a))) H
def wMix (K : PySem.W.Frag) (Wout : WX) (D : Ends) : List Cl3 → WX
  | [] => Wout
  | c :: r => fun cls d σ H => ∃ b, PySem.W.exmOne K cls c.1 = some b ∧ (b = true → ∀ a, H a = none → runC D a cls d σ H c.2.1 c.2.2) ∧ (b = false → wMix K Wout D r cls d σ H)
inductive HdsM (X : Cx) : List ExceptHandler → List Cl3 → Prop
  | nil : HdsM X [] []
  | cons {x : Str} {on : Option Str} {oi : Option Nat} {c : Value} {ts : Addr → Value → Option Addr → TS} {b₀ : Stmt} {suite : List Stmt} {np pos' : Pos} {hds : List ExceptHandler} {l : List Cl3} (hc : Names X x c)
      (hn : (on = none ∧ oi = none) ∨ ∃ n i, on = some n ∧ oi = some i ∧ X.N[i]? = some n ∧ X.env.kindOf n = some .local)
      (hsu : ∀ (a : Addr) (oe : Obj) (cls : Value) (d : Option Addr) (pn : List (Addr × Obj)), Zc cls d oe → (∃ vs, oe.data = .fields vs) → PSs (X.suite a ((a, oe) :: pn)) (b₀ :: suite) (ts a cls d)) (r : HdsM X hds l) :
      HdsM X (.ExceptHandler (some (.Name x np)) on (b₀ :: suite) pos' :: hds) ((c, oi, ts) :: l)
section
variable {X : Cx} {body : List Stmt} {h₀ : ExceptHandler} {hds : List ExceptHandler} {l : List Cl3} {pos : Pos} {tb : WX → TS} {Wout : WX}
end
end EV
namespace EV
open PySem PySem.Spec PyProof.Rows L2
abbrev FX := EV.Exc → FE
abbrev FXA := EV.Exc → FA
abbrev FXS := EV.Exc → FS
structure Er where
  a : Addr
  cls : Value
  d : Option Addr
  i : Nat
  k : Nat
def HasE (B : Bx) (R : Er) (m : Nat → Addr) (h : Hpe) (σ : L2.St) (H : Hp) (x : EV.Exc) : Prop := σ[R.i]? = some (some (.ref R.a)) ∧ x.cls = R.k ∧ ExR B.G B.cl m h.nx H x R.cls R.d
def tXS (B : Bx) (R : Er) (f : FXS) : TS := fun D σ H => ∃ m h ρ x, SS B.G B.cf m h ρ σ H ∧ HasE B R m h σ H x ∧ OutS B.nox m h H D (f x ρ h)
def SXs (X : Cx) (B : Bx) (R : Er) (st : List Stmt) (f : FXS) : Prop := PSs X st (tXS B R f)
structure ExV (K : PySem.W.Frag) (cl : Cls) (k : Nat) : Prop where
  c : ∀ c, cl k = some c → ∃ D, c = .ref D ∧ ExcC K D
theorem HasE.mv {B : Bx} {R : Er} {m m1 : Nat → Addr} {h h1 : Hpe} {σ : L2.St} {H H1 : Hp} {x : EV.Exc} (e : HasE B R m h σ H x) (rh : RH B.G m h H) (v : Mv m h.nx H m1 h1.nx H1) : HasE B R m1 h1 σ H1 x :=
  ⟨e.1, e.2.1, e.2.2.mono v.old v.le (v.tupk rh) fun dx kus q => v.stay q (fun i hi z => by
    obtain ⟨o, ho, _, e1, r⟩ := rh.obj i hi
    rw [z, q] at e1; cases e1; cases r) fun _ z => by cases z⟩
section
variable {X : Cx} {B : Bx} {R : Er} {oe : Obj} {pn : List (Addr × Obj)} {a b c e : Expr} {es : List Expr} {f fa fb fc : FX} {fs : FXA} {g : FE} {pos p p2 : Pos} {n x y : Str} {j : Nat}
def xN : FXA := fun _ _ h => .ok [] h
end
def RS.unset (i : Nat) : RS → RS
  | .nx ρ h => .nx (ρ.set i none) h
  | .bk ρ h => .bk (ρ.set i none) h
  | .ct ρ h => .ct (ρ.set i none) h
  | .rt w h => .rt w h
  | _ => .no
theorem SS.unset {G : GC} {cf : CF} {m : Nat → Addr} {h : Hpe} {ρ : Rho} {σ : L2.St} {H : Hp} (s : SS G cf m h ρ σ H) (i : Nat) (v : Option V) : SS G cf m h (ρ.set i none) (σ.set i v) H :=
  ⟨s.rh, by rw [List.length_set, List.length_set]; exact s.len, fun k u e => by
    rw [List.getElem?_set] at e
    by_cases c : i = k
    · rw [if_pos c] at e; split at e <;> cases e
    · rw [if_neg c] at e
      obtain ⟨v', e', r'⟩ := s.sl k u e
      exact ⟨v', by rw [List.getElem?_set, if_neg c]; exact e', r'⟩⟩
theorem OutS.unset {B : Bx} {m : Nat → Addr} {h : Hpe} {H : Hp} {D : Ends} {r : RS} {i : Nat} (o : OutS B m h H D (r.unset i)) : OutS B.nox m h H (endsAs i D) r := by
  cases r with
  | nx ρ' h' => exact fun m' H' σ' a b => o m' H' _ (a.unset i none) b
  | bk ρ' h' => exact fun m' H' σ' a b => o m' H' _ (a.unset i none) b
  | ct ρ' h' => exact fun m' H' σ' a b => o m' H' _ (a.unset i none) b
  | rt w h' => exact o
  | ex x ρ' h' => exact o.elim
  | no => exact o
def hdlM : List (Nat × Option Nat × FXS) → EV.Exc → FS
  | [], x, ρ, h => .ex x ρ h
  | (k, none, f) :: r, x, ρ, h => bif Nat.beq x.cls k then (f x ρ h).noX else hdlM r x ρ h
  | (k, some i, f) :: r, x, ρ, h => bif Nat.beq x.cls k then (bif Nat.blt i ρ.length then (f x (ρ.set i none) h).unset i else .no) else hdlM r x ρ h
inductive HM (X : Cx) (B : Bx) : List ExceptHandler → List (Nat × Option Nat × FXS) → Prop
  | nil : HM X B [] []
  | cons {x : Str} {k : Nat} {f : FS} {b₀ : Stmt} {suite : List Stmt} {np pos' : Pos} {hds : List ExceptHandler} {l : List (Nat × Option Nat × FXS)} (hg : Gl X x) (hdb : (x == ("__debug__" : Str)) = false) (C : ExN X.K X.mg B.cl x k)
      (hsu : ∀ (a : Addr) (oe : Obj) (pn : List (Addr × Obj)), SSs (X.suite a ((a, oe) :: pn)) B.nox (b₀ :: suite) f) (r : HM X B hds l) : HM X B (.ExceptHandler (some (.Name x np)) none (b₀ :: suite) pos' :: hds) ((k, none, fun _ => f) :: l)
  | consAs {x n : Str} {k i : Nat} {f : FXS} {b₀ : Stmt} {suite : List Stmt} {np pos' : Pos} {hds : List ExceptHandler} {l : List (Nat × Option Nat × FXS)} (hg : Gl X x) (hdb : (x == ("__debug__" : Str)) = false) (C : ExN X.K X.mg B.cl x k) (hi : X.N[i]? = some n) (hln : X.env.kindOf n = some .local)
      (hsu : ∀ (a : Addr) (oe : Obj) (cls : Value) (d : Option Addr) (pn : List (Addr × Obj)), Zc cls d oe → (∃ vs, oe.data = .fields vs) → SXs (X.suite a ((a, oe) :: pn)) B ⟨a, cls, d, i, k⟩ (b₀ :: suite) f) (r : HM X B hds l) :
      HM X B (.ExceptHandler (some (.Name x np)) (some n) (b₀ :: suite) pos' :: hds) ((k, some i, f) :: l)
section
variable {X : Cx} {B : Bx} {fb : FS} {pos : Pos}
theorem HM.ok {hds : List ExceptHandler} {l : List (Nat × Option Nat × FXS)} (hh : HM X B hds l) : ∃ ls, HdsM X hds ls ∧ ∀ (D : Ends) (x : EV.Exc) (m : Nat → Addr) (h : Hpe) (ρ : Rho) (σ : L2.St) (H : Hp) (c : Value) (d : Option Addr), SS B.G B.cf m h ρ σ H → ExR B.G B.cl m h.nx H x c d → OutS B m h H D (hdlM l x ρ h) → wMix X.K B.W D ls c d σ H := by
  induction hh with
  | nil => exact ⟨[], .nil, fun D x m h ρ σ H c d s r o => o m H σ c d s Mv.refl r⟩
  | @cons x k f b₀ suite np pos' hds l hg hdb C hsu r ih =>
    obtain ⟨ls, h1, h2⟩ := ih
    obtain ⟨cv, hm, hk⟩ := C.ex
    refine ⟨(cv, none, fun _ _ _ => tS B.nox f) :: ls, .cons ⟨hg, hdb, .inl hm⟩ (.inl ⟨rfl, rfl⟩) (fun a oe cls d pn _ _ => hsu a oe pn) h1, fun D x m h ρ σ H c d s rx o => ?_⟩
    refine ⟨_, C.mt x.cls c cv rx.1 hk, fun hb a _ => ⟨m, h, ρ, s, ?_⟩, fun hb => h2 D x m h ρ σ H c d s rx ?_⟩
    · simp only [hdlM, hb, cond_true] at o; exact o.noX
    · simp only [hdlM, hb, cond_false] at o; exact o
  | @consAs x n k i f b₀ suite np pos' hds l hg hdb C hi hln hsu r ih =>
    obtain ⟨ls, h1, h2⟩ := ih
    obtain ⟨cv, hm, hk⟩ := C.ex
    refine ⟨(cv, some i, fun a cls d => tXS B ⟨a, cls, d, i, k⟩ f) :: ls, .cons ⟨hg, hdb, .inl hm⟩ (.inr ⟨n, i, rfl, rfl, hi, hln⟩) (fun a oe cls d pn hz hf => hsu a oe cls d pn hz hf) h1, fun D x m h ρ σ H c d s rx o => ?_⟩
    refine ⟨_, C.mt x.cls c cv rx.1 hk, fun hb a _ => ?_, fun hb => h2 D x m h ρ σ H c d s rx ?_⟩
    · simp only [hdlM, hb, cond_true] at o
      cases ci : Nat.blt i ρ.length with
      | false => rw [ci] at o; exact o.elim
      | true =>
        rw [ci] at o
        have hil : i < σ.length := by rw [← s.len]; exact Nat.le_of_ble_eq_true ci
        exact ⟨m, h, ρ.set i none, x, s.unset i _, ⟨by rw [List.getElem?_set_self hil], beq_eq hb, rx⟩, o.unset⟩
    · simp only [hdlM, hb, cond_false] at o; exact o
end
end EV
set_option maxHeartbeats 2000000
namespace EV
open PySem PySem.Spec PyProof.Rows L2
theorem room65 {k : Nat} {A : Around} (r : Room k A) : A.units + 65 < cLine := by have := r.un; omega
section
variable {X : Cx}
end
section
variable {X : Cx} {B : Bx} {a b c e : Expr} {fa fb f : FE} {fs : FA} {pos p : Pos} {x : Str}
section
variable (hK : X.K = B.G.K) (ha : SA X B [e] fs) (h3 : starEach [e] X.env = (false, eval e X.env) :: starEach [] X.env) (h4 : (backTo pos (starEach [] X.env)).any (·.1) = false)
include hK ha h3 h4
end
end
end EV
set_option maxHeartbeats 4000000
namespace EV
open PySem PySem.Spec PyProof.Rows L2
theorem mapO_nk {G : GC} {m : Nat → Addr} {n : Nat} {H : Hp} {f : W → Option NestedKey} (hf : ∀ w v k, RW G m n H w v → f w = some k → Nk G.K H k v) : ∀ {ws : List W} {vs : List V} {ks : List NestedKey}, RWs G m n H ws vs → mapO f ws = some ks →
    ks.length = vs.length ∧ ∀ (j : Nat) (k : NestedKey) (x : V), ks[j]? = some k → vs[j]? = some x → Nk G.K H k x
  | _, _, _, .nil, e => by cases e; exact ⟨rfl, fun j k x h => by simp at h⟩
  | w :: ws, v :: vs, ks, .cons a b, e => by
    simp only [mapO] at e
    split at e
    · cases e
    · rename_i y ey
      split at e
      · cases e
      · rename_i ys eys
        cases e
        obtain ⟨h1, h2⟩ := mapO_nk hf b eys
        refine ⟨by simp [h1], fun j k x hk hx => ?_⟩
        cases j with
        | zero => simp at hk hx; subst hk hx; exact hf w v y a ey
        | succ j => exact h2 j k x (by simpa using hk) (by simpa using hx)
theorem nkW_ok {G : GC} {m : Nat → Addr} {n : Nat} {H : Hp} : ∀ (f : Nat) (w : W) (v : V) (k : NestedKey), RW G m n H w v → nkW f w = some k → Nk G.K H k v
  | 0, _, _, _, _, e => by cases e
  | f + 1, w, v, k, r, e => by
    cases w with
    | non => cases e; obtain rfl := rw_non r; exact .non
    | bl b => cases e; obtain rfl := asB_ok r; exact .bl b
    | int i => cases e; obtain rfl := rw_int r; exact .int i
    | str x => cases e; obtain rfl := rw_str r; exact .str x
    | ref _ => cases e
    | df _ => cases e
    | clo _ _ => cases e
    | tup ws =>
      simp only [nkW] at e
      split at e
      · cases e
      · rename_i ks q
        cases e
        obtain ⟨a, xs, rfl, s, rs⟩ := rw_tup r
        obtain ⟨h1, h2⟩ := mapO_nk (fun w v k => nkW_ok f w v k) rs q
        exact .tup s h1 h2
def keyT (w : W) : Option NestedKey := match w with
  | .tup _ => match nkW 9 w with
    | some k => bif Nat.ble k.depth 8 then some k else none
    | none => none
  | _ => none
theorem keyT_ok {G : GC} {m : Nat → Addr} {n : Nat} {H : Hp} {w : W} {v : V} {k : NestedKey} (r : RW G m n H w v) (e : keyT w = some k) : nkW 9 w = some k ∧ k.depth ≤ 8 ∧ Nk G.K H k v ∧ ∃ b, v = .ref b := by
  unfold keyT at e
  split at e
  · rename_i ws
    split at e
    · rename_i k' e'
      cases c : Nat.ble k'.depth 8 with
      | false => rw [c] at e; cases e
      | true =>
        rw [c] at e; cases e
        obtain ⟨a, xs, rfl, _, _⟩ := rw_tup r
        exact ⟨e', Nat.le_of_ble_eq_true c, nkW_ok 9 _ _ _ r e', a, rfl⟩
    · cases e
  · cases e
def atW (kvs : List (W × W)) (k : NestedKey) : Option W := match kvs with
  | [] => none
  | p :: r => bif decide (nkW 9 p.1 = some k) then some p.2 else atW r k
def setW (k : NestedKey) (w : W) : List (W × W) → List (W × W)
  | [] => []
  | p :: r => (bif decide (nkW 9 p.1 = some k) then (p.1, w) else p) :: setW k w r
def putW (kvs : List (W × W)) (key : W) (k : NestedKey) (w : W) : List (W × W) := match atW kvs k with
  | some _ => setW k w kvs
  | none => kvs ++ [(key, w)]
section
variable {G : GC} {m : Nat → Addr} {n : Nat} {H : Hp}
def DnR (G : GC) (m : Nat → Addr) (n : Nat) (H : Hp) (kvs : List (W × W)) (xs : Dn) : Prop :=
  kvs.map (fun p => nkW 9 p.1) = xs.map (fun x => some x.1) ∧ (∀ x ∈ xs, x.1.depth ≤ 8) ∧ RWs G m n H (kvs.map (·.1)) (xs.map fun x => V.ref x.2.1) ∧ RWs G m n H (kvs.map (·.2)) (xs.map (·.2.2))
theorem DnR.key {kvs : List (W × W)} {xs : Dn} (r : DnR G m n H kvs xs) : ∀ x ∈ xs, Nk G.K H x.1 (.ref x.2.1) ∧ x.1.depth ≤ 8 := by
  induction kvs generalizing xs with
  | nil => obtain ⟨h1, _⟩ := r; cases xs with
    | nil => intro x hx; cases hx
    | cons _ _ => simp at h1
  | cons p kvs ih =>
    obtain ⟨h1, h2, h3, h4⟩ := r
    cases xs with
    | nil => intro x hx; cases hx
    | cons y xs =>
      simp only [List.map_cons, List.cons.injEq] at h1 h3 h4
      cases h3 with
      | cons a3 b3 => cases h4 with
        | cons a4 b4 =>
          intro x hx
          rcases List.mem_cons.mp hx with rfl | hx
          · exact ⟨nkW_ok 9 _ _ _ a3 h1.1, h2 _ (List.mem_cons_self ..)⟩
          · exact ih ⟨h1.2, fun z hz => h2 z (List.mem_cons_of_mem _ hz), b3, b4⟩ x hx
theorem DnR.at {kvs : List (W × W)} {xs : Dn} (r : DnR G m n H kvs xs) (k : NestedKey) : (atW kvs k = none ∧ atV xs k = none) ∨ ∃ w p, atW kvs k = some w ∧ atV xs k = some p ∧ RW G m n H w p.2 := by
  induction kvs generalizing xs with
  | nil => obtain ⟨h1, _⟩ := r; cases xs with
    | nil => exact .inl ⟨rfl, rfl⟩
    | cons _ _ => simp at h1
  | cons p kvs ih =>
    obtain ⟨h1, h2, h3, h4⟩ := r
    cases xs with
    | nil => simp at h1
    | cons y xs =>
      simp only [List.map_cons, List.cons.injEq] at h1 h3 h4
      cases h3 with
      | cons a3 b3 => cases h4 with
        | cons a4 b4 =>
          have ih' := ih ⟨h1.2, fun z hz => h2 z (List.mem_cons_of_mem _ hz), b3, b4⟩
          unfold atW
          unfold atV at ih' ⊢
          rw [List.find?_cons, h1.1]
          by_cases c : y.1 = k
          · rw [decide_eq_true (show some y.1 = some k by rw [c]), decide_eq_true c]
            exact .inr ⟨p.2, y.2, rfl, rfl, a4⟩
          · rw [decide_eq_false (show ¬ some y.1 = some k by simpa using c), decide_eq_false c]
            exact ih'
theorem DnR.sets {kvs : List (W × W)} {xs : Dn} {k : NestedKey} {w : W} {v : V} (rv : RW G m n H w v) (r : DnR G m n H kvs xs) : DnR G m n H (setW k w kvs) (xs.map fun x => if x.1 = k then (x.1, x.2.1, v) else x) := by
  induction kvs generalizing xs with
  | nil => obtain ⟨h1, _⟩ := r; cases xs with
    | nil => exact ⟨rfl, fun _ z => (nomatch z), .nil, .nil⟩
    | cons _ _ => simp at h1
  | cons p kvs ih =>
    obtain ⟨h1, h2, h3, h4⟩ := r
    cases xs with
    | nil => simp at h1
    | cons y xs =>
      simp only [List.map_cons, List.cons.injEq] at h1 h3 h4
      cases h3 with
      | cons a3 b3 => cases h4 with
        | cons a4 b4 =>
          obtain ⟨i1, i2, i3, i4⟩ := ih ⟨h1.2, fun z hz => h2 z (List.mem_cons_of_mem _ hz), b3, b4⟩
          unfold setW
          by_cases c : y.1 = k
          · rw [h1.1, decide_eq_true (show some y.1 = some k by rw [c]), cond_true, List.map_cons, if_pos c]
            refine ⟨by simp only [List.map_cons]; rw [h1.1, i1], fun z hz => ?_, .cons a3 i3, .cons rv i4⟩
            rcases List.mem_cons.mp hz with rfl | hz
            · exact h2 y (List.mem_cons_self ..)
            · exact i2 z hz
          · rw [h1.1, decide_eq_false (show ¬ some y.1 = some k by simpa using c), cond_false, List.map_cons, if_neg c]
            refine ⟨by simp only [List.map_cons]; rw [h1.1, i1], fun z hz => ?_, .cons a3 i3, .cons a4 i4⟩
            rcases List.mem_cons.mp hz with rfl | hz
            · exact h2 _ (List.mem_cons_self ..)
            · exact i2 z hz
theorem DnR.put {kvs : List (W × W)} {xs : Dn} {key w : W} {b : Addr} {k : NestedKey} {v : V} (r : DnR G m n H kvs xs) (rk : RW G m n H key (.ref b)) (ek : nkW 9 key = some k) (hd : k.depth ≤ 8) (rv : RW G m n H w v) : DnR G m n H (putW kvs key k w) (putV xs k b v) := by
  unfold putW putV
  rcases r.at k with ⟨e1, e2⟩ | ⟨w', p, e1, e2, _⟩
  · rw [e1, e2]
    obtain ⟨h1, h2, h3, h4⟩ := r
    show DnR G m n H (kvs ++ [(key, w)]) (xs ++ [(k, b, v)])
    refine ⟨by simp [h1, ek], fun x hx => ?_, by simpa using h3.app (.cons rk .nil), by simpa using h4.app (.cons rv .nil)⟩
    rcases List.mem_append.mp hx with hx | hx
    · exact h2 x hx
    · rw [List.mem_singleton.mp hx]; exact hd
  · rw [e1, e2]; exact r.sets rv
end
theorem dn_nofrz {P : Program} {w : World} {K : PySem.W.Frag} {H : Hp} {a : Addr} {xs : Dn} (D : DnAt P w K H a xs) (ob : Obj) (u : HO) : H a ≠ some (.frz ob u) := fun z => by
  rcases D.obj with e | ⟨_, e⟩
  · rw [z] at e
    exact absurd (show HO.frz _ _ = HO.ext _ from Option.some.inj e) (fun q => by cases q)
  · rw [z] at e; cases e
def rdN (h : Hpe) (n : Nat) : Option (List (W × W)) := match h.get n with
  | some (.dn kvs) => some kvs
  | some (.dk []) => some []
  | _ => none
theorem RH.dn {G : GC} {m : Nat → Addr} {h : Hpe} {H : Hp} (r : RH G m h H) {i : Nat} {kvs : List (W × W)} (hi : i < h.nx) (e : rdN h i = some kvs) : ∃ xs, DnR G m h.nx H kvs xs ∧ DnAt G.prog G.wo G.K H (m i) xs := by
  obtain ⟨o, ho, q1, q2, q3⟩ := r.obj i hi
  unfold rdN at e
  rw [q1] at e
  cases q3 with
  | lst _ => cases e
  | fz _ => cases e
  | @dk kvs' kus a b =>
    cases kvs' with
    | nil =>
      cases e
      cases kus with
      | nil => exact ⟨[], ⟨rfl, fun _ z => (nomatch z), .nil, .nil⟩, .inr ⟨rfl, q2⟩, fun _ z => (nomatch z)⟩
      | cons _ _ => simp at a
    | cons _ _ => cases e
  | @dn _ xs a b c d =>
    cases e
    have R : DnR G m h.nx H kvs xs := ⟨a, b, c, d⟩
    exact ⟨xs, R, .inl q2, R.key⟩
  | st _ _ _ => cases e
  | si _ => cases e
  | ob _ _ _ => cases e
  | fd _ _ => cases e
  | fn _ _ _ _ => cases e
  | pt _ _ => cases e
  | er0 _ => cases e
  | er1 _ _ => cases e
  | xo => cases e
def keyK : W → Option Key
  | .int i => some (.inl i)
  | .str x => some (.inr x)
  | _ => none
theorem keyK_ok {G : GC} {m : Nat → Addr} {n : Nat} {H : Hp} {w : W} {v : V} {k : Key} (r : RW G m n H w v) (e : keyK w = some k) : v = kV k := by
  cases w <;> try (cases e; done)
  · cases e; obtain rfl := rw_int r; rfl
  · cases e; obtain rfl := rw_str r; rfl
def atK (kvs : List (Key × W)) (k : Key) : Option W := match kvs with
  | [] => none
  | p :: r => bif decide (p.1 = k) then some p.2 else atK r k
theorem atK_rel {G : GC} {m : Nat → Addr} {n : Nat} {H : Hp} : ∀ {kvs : List (Key × W)} {kus : List (Key × V)}, kvs.map (·.1) = kus.map (·.1) → RWs G m n H (kvs.map (·.2)) (kus.map (·.2)) → ∀ k, (atK kvs k = none ∧ valV kus k = none) ∨ ∃ w v, atK kvs k = some w ∧ valV kus k = some v ∧ RW G m n H w v
  | [], [], _, _, k => .inl ⟨rfl, rfl⟩
  | [], _ :: _, h, _, _ => by simp at h
  | _ :: _, [], h, _, _ => by simp at h
  | p :: kvs, q :: kus, h1, h2, k => by
    simp only [List.map_cons, List.cons.injEq] at h1
    simp only [List.map_cons] at h2
    cases h2 with
    | cons a b =>
      have ih := atK_rel h1.2 b k
      unfold atK
      unfold valV at ih ⊢
      rw [List.find?_cons, h1.1]
      by_cases c : q.1 = k
      · rw [decide_eq_true c]; exact .inr ⟨p.2, q.2, rfl, rfl, a⟩
      · rw [decide_eq_false c]; exact ih
end EV
namespace EV
open PySem PySem.Spec PyProof.Rows L2
structure Hm (X : Cx) (G : GC) : Prop where
  p : X.prog = G.prog
  w : X.w = G.wo
section
variable {X : Cx} {G : GC}
def rdK (h : Hpe) (n : Nat) : Option (List (Key × W)) := match h.get n with
  | some (.dk kvs) => some kvs
  | _ => none
theorem RH.dk {m : Nat → Addr} {h : Hpe} {H : Hp} (r : RH G m h H) {i : Nat} {kvs : List (Key × W)} (hi : i < h.nx) (e : rdK h i = some kvs) : ∃ kus, H (m i) = some (.dK kus) ∧ kvs.map (·.1) = kus.map (·.1) ∧ RWs G m h.nx H (kvs.map (·.2)) (kus.map (·.2)) := by
  obtain ⟨o, ho, q1, q2, q3⟩ := r.obj i hi
  unfold rdK at e
  rw [q1] at e
  cases q3 with
  | lst _ => cases e
  | fz _ => cases e
  | dk a b => cases e; exact ⟨_, q2, a, b⟩
  | dn _ _ _ _ => cases e
  | st _ _ _ => cases e
  | si _ => cases e
  | ob _ _ _ => cases e
  | fd _ _ => cases e
  | fn _ _ _ _ => cases e
  | pt _ _ => cases e
  | er0 _ => cases e
  | er1 _ _ => cases e
  | xo => cases e
def rdQ (h : Hpe) (n : Nat) : Option (List (Key × W)) := match h.get n with
  | some (.dk kvs) => some kvs
  | some (.fd kvs) => some kvs
  | _ => none
theorem RH.dq {m : Nat → Addr} {h : Hpe} {H : Hp} (r : RH G m h H) {i : Nat} {kvs : List (Key × W)} (hi : i < h.nx) (e : rdQ h i = some kvs) : ∃ kus, Rd H (m i) (.dK kus) ∧ kvs.map (·.1) = kus.map (·.1) ∧ RWs G m h.nx H (kvs.map (·.2)) (kus.map (·.2)) := by
  obtain ⟨o, ho, q1, q2, q3⟩ := r.obj i hi
  unfold rdQ at e
  rw [q1] at e
  cases q3 with
  | dk a b => cases e; exact ⟨_, .inl q2, a, b⟩
  | fd a b => cases e; exact ⟨_, .inr ⟨_, q2⟩, a, b⟩
  | _ => cases e
theorem dget_rd {H : Hp} {a : Addr} {kvs : List (Key × V)} {k : Key} (h : Rd H a (.dK kvs)) : DGet H a (kV k) (valV kvs k) := .inl ⟨kvs, k, h, rfl, rfl⟩
theorem tail_any {prog : Program} {w : World} {A : Around} {E : Value → Shared → Prop} {s : Shared} {value slice : Expr} {T id : String} {o i : Value} {Q : Value → Shared → Prop} (hT : s.TypeIs o T)
    (hl : typeLookup (.type T) "__getitem__" = pure (some (.builtin id))) (hs : subscripted slice false o i = operate [o, i] (getItem o i)) (h : wpAny (model prog w) A (getItem o i) Q E s) : wpAny (model prog w) A (subscriptTail value slice o i) Q E s := by
  unfold subscriptTail
  refine wpAny_bind ?_
  rw [getitemInPython_of_ne hT.not_modules]
  refine wpAny_bind (wpAny_specialOf hT hl ?_)
  have fin : wpAny (model prog w) A (subscripted slice false o i) (fun r s₃ => wpAny (model prog w) A (letTemporaryGo value o r >>= fun _ => pure r) Q E s₃) E s := by
    rw [hs]
    exact wpAny_operating (wpAny_mono h (fun r s₃ h₃ => wpAny_bind (wpAny_letTemporaryGo (wpAny_pure h₃))) fun _ _ x => x)
  first
    | exact wpAny_pure (wpAny_bind fin)
    | exact wpAny_bind (wpAny_pure (wpAny_bind fin))
    | exact wpAny_bind fin
theorem dn_ty {X : Cx} {pins : List (Addr × Obj)} {σ : L2.St} {H : Hp} {s : Shared} {a : Addr} {xs : Dn} (I : Inv X pins σ H s) (D : DnAt X.prog X.w X.K H a xs) : s.TypeIs (.ref a) "dict" := by
  obtain ⟨_, _, ys, _, dd⟩ := dn_of I D
  exact dd.typeIs
def rIx2 (G : GC) : R2 := fun x y H Q => rIx G.K x y H Q ∨ (∃ a b xs k p, x = .ref a ∧ y = .ref b ∧ DnAt G.prog G.wo G.K H a xs ∧ Nk G.K H k y ∧ k.depth ≤ 8 ∧ atV xs k = some p ∧ Q p.2 H) ∨ ∃ a v, x = .ref a ∧ DGet H a y (some v) ∧ Q v H
theorem ix_2 (hK : X.K = G.K) (hm : Hm X G) (hu : X.A.units + 65 < cLine) : IxR X (rIx2 G) := by
  intro value slice pins s σ H x y v u Q I rx ry h hs
  rcases h with h | ⟨a, b, xs, k, p, rfl, rfl, D, n, hd, hp, q⟩ | ⟨a, z, rfl, g, q⟩
  · rw [← hK] at h; exact ix_seq value slice pins s σ H x y v u Q I rx ry h hs
  · obtain rfl : v = Value.ref a := rx
    obtain rfl : u = Value.ref b := ry
    rw [← hm.p, ← hm.w, ← hK] at D
    rw [← hK] at n
    exact tail_any (dn_ty I D) slot_dict_getitem.lookup hs (dn_get (by omega) I D n hd hp fun w s' J rw => ⟨_, H, J, rw, q⟩)
  · obtain rfl : v = Value.ref a := rx
    exact tail_any (dict_typeIs I g) slot_dict_getitem.lookup hs (d_getItem (by omega) I g ry fun w s' J rw => ⟨_, H, J, rw, q⟩)
end
end EV
namespace EV
open PySem PySem.Spec PyProof.Rows L2
def gIx2 : W → W → Hpe → Res W := fun a b h => match a with
  | .ref n => match rdN h n, keyT b with
    | some kvs, some k => match atW kvs k with
      | some w => .ok w h
      | none => .no
    | _, _ => match rdQ h n, keyK b with
      | some kvs, some k => match atK kvs k with
        | some w => .ok w h
        | none => .no
      | _, _ => gIx (.ref n) b h
  | _ => gIx a b h
theorem os_ix2 {G : GC} : OpS G (rIx2 G) gIx2 := by
  intro cl Wx m h H a b x y Q rh ra rb o
  unfold gIx2 at o
  split at o
  · rename_i n
    obtain ⟨rfl, hn⟩ := rw_ref ra
    split at o
    · rename_i kvs k e1 e2
      obtain ⟨xs, R, D⟩ := rh.dn hn e1
      obtain ⟨k1, k2, k3, c, rfl⟩ := keyT_ok rb e2
      split at o
      · rename_i w ew
        rcases R.at k with ⟨z1, z2⟩ | ⟨w', p, z1, z2, rv⟩
        · rw [z1] at ew; cases ew
        · rw [z1] at ew; cases ew
          exact .inr (.inl ⟨_, c, xs, k, p, rfl, rfl, D, k3, k2, z2, o m H _ rh Mv.refl rv⟩)
      · exact o.elim
    · split at o
      · rename_i kvs k e1 e2
        obtain ⟨kus, eH, h1, h2⟩ := rh.dq hn e1
        obtain rfl := keyK_ok rb e2
        split at o
        · rename_i w ew
          rcases atK_rel h1 h2 k with ⟨z1, z2⟩ | ⟨w', v, z1, z2, rv⟩
          · rw [z1] at ew; cases ew
          · rw [z1] at ew; cases ew
            refine .inr (.inr ⟨_, v, rfl, ?_, o m H _ rh Mv.refl rv⟩)
            rw [← z2]
            exact dget_rd eH
        · exact o.elim
      · exact .inl (os_ix cl Wx m h H (.ref n) b _ y Q rh (.ref n hn) rb o)
  · exact .inl (os_ix cl Wx m h H a b x y Q rh ra rb o)
def setKW (k : Key) (w : W) : List (Key × W) → List (Key × W)
  | [] => []
  | p :: r => (bif decide (p.1 = k) then (p.1, w) else p) :: setKW k w r
def putKW (kvs : List (Key × W)) (k : Key) (w : W) : List (Key × W) := match atK kvs k with
  | some _ => setKW k w kvs
  | none => kvs ++ [(k, w)]
section
variable {G : GC} {m : Nat → Addr} {n : Nat} {H : Hp}
theorem any_at : ∀ (kus : List (Key × V)) (k : Key), (kus.any fun kv => decide (kv.1 = k)) = (valV kus k).isSome
  | [], _ => rfl
  | p :: r, k => by
    by_cases c : p.1 = k
    · rw [valV_pos c, List.any_cons, decide_eq_true c]; rfl
    · rw [valV_neg c, List.any_cons, decide_eq_false c, Bool.false_or]; exact any_at r k
theorem setKW_rel {w : W} {v : V} {k : Key} (rv : RW G m n H w v) : ∀ {kvs : List (Key × W)} {kus : List (Key × V)}, kvs.map (·.1) = kus.map (·.1) → RWs G m n H (kvs.map (·.2)) (kus.map (·.2)) →
    (setKW k w kvs).map (·.1) = (kus.map fun kv => if kv.1 = k then (kv.1, v) else kv).map (·.1) ∧ RWs G m n H ((setKW k w kvs).map (·.2)) ((kus.map fun kv => if kv.1 = k then (kv.1, v) else kv).map (·.2))
  | [], [], _, _ => ⟨rfl, .nil⟩
  | [], _ :: _, h, _ => by simp at h
  | _ :: _, [], h, _ => by simp at h
  | p :: kvs, q :: kus, h1, h2 => by
    simp only [List.map_cons, List.cons.injEq] at h1
    simp only [List.map_cons] at h2
    cases h2 with
    | cons a b =>
      obtain ⟨i1, i2⟩ := setKW_rel rv h1.2 b
      by_cases c : q.1 = k
      · simp only [setKW, List.map_cons, h1.1, decide_eq_true c, cond_true, if_pos c]
        exact ⟨by rw [i1], .cons rv i2⟩
      · simp only [setKW, List.map_cons, h1.1, decide_eq_false c, cond_false, if_neg c]
        exact ⟨by rw [i1], .cons a i2⟩
theorem putKW_rel {w : W} {v : V} {k : Key} (rv : RW G m n H w v) {kvs : List (Key × W)} {kus : List (Key × V)} (h1 : kvs.map (·.1) = kus.map (·.1)) (h2 : RWs G m n H (kvs.map (·.2)) (kus.map (·.2))) :
    (putKW kvs k w).map (·.1) = (putK kus k v).map (·.1) ∧ RWs G m n H ((putKW kvs k w).map (·.2)) ((putK kus k v).map (·.2)) := by
  unfold putKW putK
  rw [any_at]
  rcases atK_rel h1 h2 k with ⟨z1, z2⟩ | ⟨w', v', z1, z2, _⟩
  · rw [z1, z2]
    rw [if_neg (by decide)]
    exact ⟨by simp [h1], by simpa using h2.app (.cons rv .nil)⟩
  · rw [z1, z2]
    rw [if_pos (show (some v').isSome = true from rfl)]
    exact setKW_rel rv h1 h2
end
def rSet2 (G : GC) : TSet := fun o i v H Q => rSetL o i v H Q ∨ (∃ a b xs k, o = .ref a ∧ i = .ref b ∧ DnAt G.prog G.wo G.K H a xs ∧ Nk G.K H k i ∧ k.depth ≤ 8 ∧ xs.length < sizeLine ∧ Q (upd H a (dnO G.prog G.wo a (putV xs k b v)))) ∨ ∃ a H', o = .ref a ∧ DPut H a i v H' ∧ Q H'
theorem set_2 {X : Cx} {G : GC} (hK : X.K = G.K) (hm : Hm X G) (hu : X.A.units + 65 < cLine) : PSet X (rSet2 G) := by
  intro pins s σ H o i v ov iv u Q I ro ri rv h
  rcases h with h | ⟨a, b, xs, k, rfl, rfl, D, n, hd, hl, q⟩ | ⟨a, H', rfl, g, q⟩
  · exact set_list pins s σ H o i v ov iv u Q I ro ri rv h
  · obtain rfl : ov = Value.ref a := ro
    obtain rfl : iv = Value.ref b := ri
    rw [← hm.p, ← hm.w, ← hK] at D
    rw [← hm.p, ← hm.w] at q
    rw [← hK] at n
    exact dn_set (by omega) I D n hd hl rv fun s' J => ⟨_, J, q⟩
  · obtain rfl : ov = Value.ref a := ro
    exact d_setItem (by omega) I g ri rv fun s' J => ⟨_, J, q⟩
def putL (n : Nat) (i w : W) (h : Hpe) : Option Hpe := match i with
  | .int j => match h.get n with
    | some (.lst ws) => match ixN ws.length j with
      | some l => some (h.set n (.lst (ws.set l w)))
      | none => none
    | _ => none
  | _ => none
def putO (o i w : W) (h : Hpe) : Option Hpe := match o with
  | .ref n => match rdN h n, keyT i with
    | some kvs, some k => bif line kvs.length then some (h.set n (.dn (putW kvs i k w))) else none
    | _, _ => match rdK h n, keyK i with
      | some kvs, some k => bif line kvs.length then some (h.set n (.dk (putKW kvs k w))) else none
      | _, _ => putL n i w h
  | _ => none
theorem putL_ok {G : GC} {m : Nat → Addr} {h h' : Hpe} {H : Hp} {n : Nat} {i w : W} {iv v : V} {Q : Hp → Prop} (rh : RH G m h H) (hn : n < h.nx) (ri : RW G m h.nx H i iv) (rv : RW G m h.nx H w v) (e : putL n i w h = some h')
    (q : ∀ H', RH G m h' H' → Mv m h.nx H m h'.nx H' → Q H') : rSetL (.ref (m n)) iv v H Q := by
  unfold putL at e
  split at e
  · rename_i j
    obtain rfl := rw_int ri
    split at e
    · rename_i ws e3
      obtain ⟨xs, e4, qs⟩ := rh.lst hn e3
      split at e
      · rename_i l el
        cases e
        obtain ⟨r2, v2⟩ := rh.store hn (.lst (qs.set rv l))
        exact ⟨_, xs, j, l, rfl, rfl, e4, by rw [← qs.len]; exact el, q _ r2 v2⟩
      · cases e
    · cases e
  · cases e
theorem putO_ok {G : GC} {m : Nat → Addr} {h h' : Hpe} {H : Hp} {o i w : W} {ov iv v : V} {Q : Hp → Prop} (rh : RH G m h H) (ro : RW G m h.nx H o ov) (ri : RW G m h.nx H i iv) (rv : RW G m h.nx H w v) (e : putO o i w h = some h')
    (q : ∀ H', RH G m h' H' → Mv m h.nx H m h'.nx H' → Q H') : rSet2 G ov iv v H Q := by
  unfold putO at e
  split at e
  · rename_i n
    obtain ⟨rfl, hn⟩ := rw_ref ro
    split at e
    · rename_i kvs k e1 e2
      obtain ⟨xs, R, D⟩ := rh.dn hn e1
      obtain ⟨k1, k2, k3, c, rfl⟩ := keyT_ok ri e2
      cases cl : line kvs.length with
      | false => rw [cl] at e; cases e
      | true =>
        rw [cl] at e; cases e
        have hl : kvs.length = xs.length := by have := congrArg List.length R.1; simpa using this
        obtain ⟨p1, p2, p3, p4⟩ := R.put ri k1 k2 rv
        obtain ⟨r2, v2⟩ := rh.store hn (.dn p1 p2 p3 p4) (dn_nofrz D)
        exact .inr (.inl ⟨_, c, xs, k, rfl, rfl, D, k3, k2, by rw [← hl]; exact line_lt cl, q _ r2 v2⟩)
    · split at e
      · rename_i kvs k e1 e2
        obtain ⟨kus, eH, h1, h2⟩ := rh.dk hn e1
        obtain rfl := keyK_ok ri e2
        cases cl : line kvs.length with
        | false => rw [cl] at e; cases e
        | true =>
          rw [cl] at e; cases e
          have hl : kvs.length = kus.length := by have := congrArg List.length h1; simpa using this
          obtain ⟨p1, p2⟩ := putKW_rel (k := k) rv h1 h2
          obtain ⟨r2, v2⟩ := rh.store hn (.dk p1 p2)
          exact .inr (.inr ⟨_, _, rfl, DPut.k eH (by rw [← hl]; exact line_lt cl), q _ r2 v2⟩)
      · exact .inl (putL_ok rh hn ri rv e q)
  · cases e
section
variable {X : Cx} {B : Bx} {a b c e o i : Expr} {fa fb f fo fi : FE} {fs : FA} {pos p : Pos} {x : Str}
theorem se_ix2 (hK : X.K = B.G.K) (hm : Hm X B.G) (hu : X.A.units + 65 < cLine) (ha : SE X B a fa) (hb : SE X B b fb) (hp : PlainIx b) : SE X B (.Subscript a b pos) (e2 gIx2 fa fb) := pe_imp (pe_ix (r := rIx2 B.G) (ix_2 hK hm hu) ha hb hp) (op2 os_ix2)
def gSb2 (fo fi : FE) : FG := fun w ρ h => bindS (fo ρ h) ρ fun u h1 => bindS (fi ρ h1) ρ fun k h2 => match putO u k w h2 with
  | some h3 => .nx ρ h3
  | none => .no
theorem sg_sub2 (hK : X.K = B.G.K) (hm : Hm X B.G) (hu : X.A.units + 65 < cLine) (ho : SE X B o fo) (hi : SE X B i fi) (ha : ∀ v, assign (.Subscript o i pos) X.env v = (do
      let ov ← holding [v] (eval o X.env)
      let iv ← holding [v, ov] (eval i X.env)
      standAt pos
      holding [v, ov, iv] (setItem ov iv v)
      release [v, ov, iv] [])) : SG X B (.Subscript o i pos) (gSb2 fo fi) [] :=
  pg_imp (pg_sub ho hi (set_2 hK hm hu) ha) fun v σ H Q ⟨m, h, ρ, w, s, rv, o⟩ => ⟨m, h, ρ, s, (OutS.bind s o).mono fun u H1 ⟨u', m1, h1, r1, v1, q1, o1⟩ => ⟨m1, h1, ρ, s.mv r1 v1, (OutS.bind (s.mv r1 v1) o1).mono fun k H2 ⟨k', m2, h2, r2, v2, q2, o2⟩ => by
    have q1' := q1.mono v2.old v2.le (v2.tupk r1)
    have rv' := (rv.mono v1.old v1.le (v1.tupk s.rh)).mono v2.old v2.le (v2.tupk r1)
    split at o2
    · rename_i h3 e3
      exact putO_ok r2 q1' q2 rv' e3 fun H3 r3 v3 => o2 m2 H3 σ (((s.mv r1 v1).mv r2 v2).mv r3 v3) v3 .refl
    · exact o2.elim⟩⟩
end
end EV
namespace EV
open PySem PySem.Spec PyProof.Rows L2
structure Lcs (G : GC) (m1 : Nat → Addr) (n1 : Nat) (H1 : Hp) (D : Addr) (m : Nat → Addr) (h : Hpe) (acc : List W) (ys : List V) (H : Hp) : Prop where
  rh : RH G m h H
  mv : Mv m1 n1 H1 m h.nx H
  rw : RWs G m h.nx H acc.reverse ys
  at_ : H D = some (.lst ys)
  no : ∀ j, j < h.nx → m j ≠ D
section
variable {G : GC} {m1 m m' : Nat → Addr} {n1 : Nat} {H1 H H' : Hp} {D : Addr} {h h' : Hpe} {acc : List W} {ys : List V}
theorem Lcs.go (L : Lcs G m1 n1 H1 D m h acc ys H) (lt : ∀ i, i < n1 → H (m1 i) ≠ none) (r : RH G m' h' H') (v : Mv m h.nx H m' h'.nx H') : Lcs G m1 n1 H1 D m' h' acc ys H' :=
  ⟨r, L.mv.trans lt v, L.rw.mono v.old v.le (v.tupk L.rh), v.stay L.at_ L.no (fun _ z => by cases z), fun j hj z => by
    by_cases cj : j < h.nx
    · rw [v.old j cj] at z; exact L.no j cj z
    · have := v.new j (by omega) hj
      rw [z, L.at_] at this; cases this⟩
theorem Lcs.lt (L : Lcs G m1 n1 H1 D m h acc ys H) : ∀ i, i < n1 → H (m1 i) ≠ none := fun i hi => by
  rw [← L.mv.old i hi]; exact L.rh.ne_none (Nat.lt_of_lt_of_le hi L.mv.le)
theorem Lcs.add (L : Lcs G m1 n1 H1 D m h acc ys H) (hD : H1 D = none) {z : W} {u : V} (q : RW G m h.nx H z u) : Lcs G m1 n1 H1 D m h (z :: acc) (ys ++ [u]) (upd H D (.lst (ys ++ [u]))) := by
  have tk : TupK H (upd H D (.lst (ys ++ [u]))) := fun a xs q => by
    rcases q with q | ⟨ob, q⟩
    · exact .inl (by rw [upd_ne (fun z : a = D => by rw [z, L.at_] at q; cases q)]; exact q)
    · exact .inr ⟨ob, by rw [upd_ne (fun z : a = D => by rw [z, L.at_] at q; cases q)]; exact q⟩
  refine ⟨⟨L.rh.sz, L.rh.inj, fun j hj => ?_, fun P hP => ?_, fun P hP => ?_⟩, ⟨L.mv.le, L.mv.old, L.mv.new, fun b ob e hb => ?_, fun j hj ob u e => by rw [upd_ne (fun z => by rw [z, hD] at e; cases e)]; exact L.mv.kf j hj ob u e⟩, ?_, upd_same, L.no⟩
  · obtain ⟨o', ho', a1, a2, a3⟩ := L.rh.obj j hj
    exact ⟨o', ho', a1, by rw [upd_ne (L.no j hj)]; exact a2, a3.mono (fun _ _ => rfl) (Nat.le_refl _) tk⟩
  · obtain ⟨ps, a1, a2⟩ := L.rh.tab P hP
    exact ⟨ps, by rw [upd_ne (fun z : P = D => by rw [z, L.at_] at a1; cases a1)]; exact a1, a2⟩
  · exact (L.rh.ltab P hP).keep (fun ps e => by rw [upd_ne (fun z : P = D => by rw [z, L.at_] at e; cases e)]; exact e) fun b q e nb => ⟨by rw [upd_ne (fun z : b = D => by rw [z, L.at_] at e; unfold LamX.CodeO at e; cases e)]; exact e, nb⟩
  · have bD : b ≠ D := fun z => by rw [z, hD] at e; cases e
    rw [upd_ne bD]; exact L.mv.kp b ob e hb
  · rw [List.reverse_cons]
    exact (L.rw.mono (fun _ _ => rfl) (Nat.le_refl _) tk).app (.cons (q.mono (fun _ _ => rfl) (Nat.le_refl _) tk) .nil)
end
structure Wk (m : Nat → Addr) (n : Nat) (H : Hp) (m' : Nat → Addr) (n' : Nat) (H' : Hp) : Prop where
  old : ∀ i, i < n → m' i = m i
  le : n ≤ n'
  tk : TupK H H'
  kf : ∀ i, i < n → ∀ ob u, H (m i) = some (.frz ob u) → H' (m i) = some (.frz ob u)
theorem Wk.refl {m : Nat → Addr} {n : Nat} {H : Hp} : Wk m n H m n H := ⟨fun _ _ => rfl, Nat.le_refl _, .refl, fun _ _ _ _ e => e⟩
theorem Wk.go {m m1 m2 : Nat → Addr} {n n1 n2 : Nat} {H H1 H2 : Hp} (a : Wk m n H m1 n1 H1) (b : Wk m1 n1 H1 m2 n2 H2) : Wk m n H m2 n2 H2 :=
  ⟨fun i hi => (b.old i (Nat.lt_of_lt_of_le hi a.le)).trans (a.old i hi), Nat.le_trans a.le b.le, TupK.trans a.tk b.tk, fun i hi ob u e => by
    have z := b.kf i (Nat.lt_of_lt_of_le hi a.le) ob u (by rw [a.old i hi]; exact a.kf i hi ob u e)
    rwa [a.old i hi] at z⟩
section
variable {X : Cx} {B : Bx} {tg tg1 elt iter iter1 : Expr} {ifs ifs1 : List Expr} {fe : FE} {ft ft1 : FT} {fi fi1 : FI} {g g1 : FG} {us us1 vs vs1 : List Nat} {pos : Pos}
end
end EV
namespace EV
open PySem PySem.Spec PyProof.Rows L2
def byN {α : Type} (π : List Nat) (us ws : List α) : List α := us ++ π.filterMap (fun i => ws[i]?)
structure DfK (P : Program) (w : World) (K : PySem.W.Frag) (mg : Str → Option Value) (base : Heap) (G : GC) (cl : Cls) (x : Str) (ps : List Str) (n : Nat) (ks : List Str) (π : List Nat) (k : Nat) (g : List W → Hpe → Res W) : Prop where
  ex : ∃ f fd, FnOk P w K mg base (L2.CX P w) k f fd ps (spE G cl ps.length g) ∧ mg x = some (.ref f) ∧ PySem.W.keepIn K (.ref f) = true ∧ KBn K fd ps n ks (byN π) (byN π)
section
variable {X : Cx} {B : Bx} {e : Expr} {es : List Expr} {kws : List Keyword} {f : FE} {fs fk : FA} {p pos kpos : Pos} {x : Str} {nm : Option Str}
end
end EV
namespace EV
open PySem PySem.Spec PyProof.Rows L2
abbrev Prs := List (FE × FE)
section
variable {B : Bx}
end
section
variable {X : Cx} {B : Bx} {pos : Pos} {keys : List (Option Expr)} {values : List Expr} {ps : Prs}
end
end EV
namespace EV
open PySem PySem.Spec PyProof.Rows L2
section
variable {X : Cx} {B : Bx} {e : Expr} {es : List Expr} {kws : List Keyword} {fs fk : FA} {p pos : Pos} {x : Str}
end
end EV
namespace EV
open PySem PySem.Spec PyProof.Rows L2
section
variable {X : Cx} {B : Bx} {tg iter kx vx : Expr} {ifs : List Expr} {fi : FI} {g : FG} {ft : FT} {fk fv : FE} {us vs : List Nat} {pos : Pos}
end
end EV
namespace EV
open PySem PySem.Spec PyProof.Rows L2
section
variable {X : Cx} {B : Bx} {e o : Expr} {es : List Expr} {fo : FE} {fs : FA} {apos cpos : Pos}
end
end EV
namespace EV
open PySem PySem.Spec PyProof.Rows L2
section
variable {X : Cx} {B : Bx} {a b : Expr} {fa fb : FE} {pos : Pos}
end
end EV
namespace EV
open PySem PySem.Spec PyProof.Rows L2
end EV
namespace EV
open PySem PySem.Spec PyProof.Rows L2
section
variable {G : GC} {m : Nat → Addr} {n : Nat} {H : Hp} {h : Hpe}
def MemR (G : GC) (m : Nat → Addr) (n : Nat) (H : Hp) (ws : List W) (l : Mem) : Prop := ws.map (nkW 9) = l.map (fun x => some x.1) ∧ (∀ x ∈ l, x.1.depth ≤ 8) ∧ RWs G m n H ws (l.map fun x => V.ref x.2)
theorem MemR.key {ws : List W} {l : Mem} (r : MemR G m n H ws l) : MemK G.K H l := by
  induction l generalizing ws with
  | nil => intro p hp; cases hp
  | cons p l ih =>
    obtain ⟨h1, h2, h3⟩ := r
    cases ws with
    | nil => cases h3
    | cons w ws =>
      simp only [List.map_cons, List.cons.injEq] at h1 h3
      cases h3 with
      | cons a b =>
        intro q hq
        rcases List.mem_cons.mp hq with rfl | hq
        · exact ⟨nkW_ok 9 _ _ _ a h1.1, h2 _ (List.mem_cons_self ..)⟩
        · exact ih ⟨h1.2, fun x hx => h2 x (List.mem_cons_of_mem _ hx), b⟩ q hq
theorem MemR.len {ws : List W} {l : Mem} (r : MemR G m n H ws l) : ws.length = l.length := by simpa using congrArg List.length r.1
def hasT (k : NestedKey) : List W → Bool
  | [] => false
  | w :: ws => bif decide (nkW 9 w = some k) then true else hasT k ws
theorem hasT_ok (k : NestedKey) : ∀ {ws : List W} {l : Mem}, ws.map (nkW 9) = l.map (fun x => some x.1) → hasT k ws = decide (k ∈ l.map (·.1))
  | [], [], _ => rfl
  | [], _ :: _, e => by simp at e
  | _ :: _, [], e => by simp at e
  | w :: ws, p :: l, e => by
    simp only [List.map_cons, List.cons.injEq] at e
    unfold hasT
    rw [e.1, hasT_ok k e.2]
    by_cases c : p.1 = k
    · subst c
      simp
    · have c' : ¬ k = p.1 := fun z => c z.symm
      simp [c, c']
def putT (ws : List W) (y : W) (k : NestedKey) : List W := bif hasT k ws then ws else ws ++ [y]
theorem MemR.put {ws : List W} {l : Mem} (r : MemR G m n H ws l) {y : W} {k : NestedKey} {b : Addr} (ry : RW G m n H y (.ref b)) (e : nkW 9 y = some k) (d : k.depth ≤ 8) : MemR G m n H (putT ws y k) (putM l k b) := by
  unfold putT putM
  rw [hasT_ok k r.1]
  by_cases c : k ∈ l.map (·.1)
  · rw [decide_eq_true c, if_pos c]; exact r
  · rw [decide_eq_false c, if_neg c]
    obtain ⟨h1, h2, h3⟩ := r
    refine ⟨by simp [h1, e], fun x hx => ?_, by simpa using h3.app (.cons ry .nil)⟩
    rcases List.mem_append.mp hx with hx | hx
    · exact h2 x hx
    · rw [List.mem_singleton.mp hx]; exact d
theorem RH.st (r : RH G m h H) {i : Nat} {ws : List W} (hi : i < h.nx) (e : h.get i = some (.st ws)) : ∃ l, MemR G m h.nx H ws l ∧ H (m i) = some (snO G.wo (m i) l) := by
  obtain ⟨o, ho, q1, q2, q3⟩ := r.obj i hi
  rw [e] at q1; cases q1
  cases q3 with
  | st a b c => exact ⟨_, ⟨a, b, c⟩, q2⟩
theorem RH.si (r : RH G m h H) {i : Nat} {is : List Int} (hi : i < h.nx) (e : h.get i = some (.si is)) : is.Nodup ∧ H (m i) = some (SetO G.wo (m i) (fun k => is.contains k) is.length) := by
  obtain ⟨o, ho, q1, q2, q3⟩ := r.obj i hi
  rw [e] at q1; cases q1
  cases q3 with
  | si a => exact ⟨a, q2⟩
end
section
variable {X : Cx} {o e : Expr} {es : List Expr} {to : TE} {t : TA} {apos cpos : Pos}
end
section
variable {X : Cx} {B : Bx} {a b c e o : Expr} {es : List Expr} {fa fb f fo : FE} {fs : FA} {pos p apos cpos : Pos} {x : Str}
end
end EV
namespace EV
open PySem PySem.Spec PyProof.Rows L2
section
variable {G : GC} {m : Nat → Addr} {n : Nat} {H : Hp} {h : Hpe}
inductive PrD (G : GC) (m : Nat → Addr) (n : Nat) (H : Hp) : List (W × PyData) → List (V × PyData) → Prop
  | nil : PrD G m n H [] []
  | cons {w : W} {v : V} {d : PyData} {ps : List (W × PyData)} {bs : List (V × PyData)} : RW G m n H w v → PrD G m n H ps bs → PrD G m n H ((w, d) :: ps) ((v, d) :: bs)
theorem PrD.ins : ∀ {ps : List (W × PyData)} {bs : List (V × PyData)} {w : W} {v : V} {d : PyData}, RW G m n H w v → PrD G m n H ps bs → PrD G m n H (ins leD (w, d) ps) (ins leD (v, d) bs)
  | _, _, _, _, _, r, .nil => .cons r .nil
  | _, _, w, v, d, r, .cons (d := d') a b => by
    unfold EV.ins
    have e : ∀ {α β : Type} (x y : α) (x' y' : β), leD (x, d) (y, d') = leD (x', d) (y', d') := fun _ _ _ _ => rfl
    rw [e (β := V) w _ v _]
    cases leD (v, d) (_, d') with
    | true => exact .cons r (.cons a b)
    | false => exact .cons a (b.ins r)
theorem PrD.dat : ∀ {ps : List (W × PyData)} {bs : List (V × PyData)}, PrD G m n H ps bs → ps.map (·.2) = bs.map (·.2)
  | _, _, .nil => rfl
  | _, _, .cons a b => by rw [List.map_cons, List.map_cons, b.dat]
theorem PrD.chain : ∀ {ps : List (W × PyData)} {bs : List (V × PyData)}, PrD G m n H ps bs → chainL ltD ps = chainL ltD bs
  | _, _, .nil => rfl
  | _, _, .cons a .nil => rfl
  | _, _, .cons a (.cons b c) => by
    unfold chainL
    rw [(PrD.cons b c).chain]
    rfl
def bLen3 : List W → Hpe → Res W
  | [.str x], h => bif line x.length then .ok (.int x.length) h else .no
  | [.ref n], h => match h.get n with
    | some (.st ws) => .ok (.int ws.length) h
    | some (.si is) => .ok (.int is.length) h
    | some (.dk kvs) => .ok (.int kvs.length) h
    | some (.dn kvs) => .ok (.int kvs.length) h
    | _ => bLen [.ref n] h
  | ws, h => bLen ws h
def rLenS (w : World) : List V → Hp → VK → Prop := fun xs H Q => ∃ a, xs = [V.ref a] ∧ ((∃ l, H a = some (snO w a l) ∧ Q (.int l.length) H) ∨ ∃ S n, H a = some (SetO w a S n) ∧ Q (.int n) H)
theorem cr_lenS {X : Cx} : CallR X (.builtin "len") (rLenS X.w) := by
  intro pins s σ H xs us Q I r h
  obtain ⟨a, rfl, h⟩ := h
  rw [Vals.ref1 r]
  rcases h with ⟨l, ha, q⟩ | ⟨S, n, ha, q⟩
  · obtain ⟨l', es, ep, t, pm, R⟩ : SnP X.w a l s.heap := (I.hok a _ ha).1
    obtain ⟨o, eo, ex, ed⟩ := R.ob
    have few := R.few
    have sz := R.size
    refine call_len_set eo ex ed R.fits (by omega) ⟨.int l.length, H, I.tok _, ⟨_, by rw [sz, pm.length_eq]⟩, q⟩
  · obtain ⟨o, es, ep, t, eo, ex, ed, _, _, _, c, f, sz, _⟩ := setO_get I ha
    have c' : es.size < 4096 := c
    refine call_len_set eo ex ed f (by omega) ⟨.int n, H, I.tok _, ⟨_, by rw [sz]⟩, q⟩
def rLenN (G : GC) : List V → Hp → VK → Prop := fun xs H Q => ∃ a ys, xs = [V.ref a] ∧ DnAt G.prog G.wo G.K H a ys ∧ Q (.int ys.length) H
theorem cr_lenN {X : Cx} (hK : X.K = G.K) (hm : Hm X G) : CallR X (.builtin "len") (rLenN G) := by
  intro pins s σ H xs us Q I r h
  obtain ⟨a, ys, rfl, D, q⟩ := h
  rw [Vals.ref1 r]
  rw [← hm.p, ← hm.w, ← hK] at D
  obtain ⟨z, hd, zs, rel, dd⟩ := dn_of I D
  have hl : ys.length = zs.length := Paired.length rel
  refine call_len_dictH hd dd (by rw [← hl]; rw [sizeLine_eq] at z; omega) ?_
  rw [← hl]
  exact ⟨.int ((ys.length : Nat) : Int), H, I.tok _, ⟨_, rfl⟩, q⟩
def rLen3 (G : GC) : List V → Hp → VK → Prop := fun xs H Q => (∃ p ys, xs = [V.ref p] ∧ (SqL G.K H p ys ∨ SqT G.K H p ys) ∧ Q (V.int ↑ys.length) H) ∨ (∃ z, xs = [.str z] ∧ z.length ≤ sizeLine ∧ Q (.int z.length) H) ∨ rLenS G.wo xs H Q ∨ (∃ a kvs, xs = [V.ref a] ∧ H a = some (.dK kvs) ∧ Q (.int kvs.length) H) ∨ rLenN G xs H Q
theorem cs_len3 : ClS G (rLen3 G) bLen3 := by
  intro cl Wx m h H ws vs Q rh r o
  unfold bLen3 at o
  split at o
  · obtain ⟨v, rfl, rv⟩ := rws_one r
    obtain rfl := rw_str rv
    rename_i x
    cases c : line x.length with
    | false => rw [c] at o; exact o.elim
    | true => rw [c] at o; exact .inr (.inl ⟨x, rfl, line_le c, o m H _ rh Mv.refl (.int _)⟩)
  · rename_i n
    obtain ⟨v, rfl, rv⟩ := rws_one r
    obtain ⟨rfl, hn⟩ := rw_ref rv
    split at o
    · rename_i ws e
      obtain ⟨l, R, eH⟩ := rh.st hn e
      exact .inr (.inr (.inl ⟨_, rfl, .inl ⟨l, eH, o m H _ rh Mv.refl (by rw [R.len]; exact .int _)⟩⟩))
    · rename_i is e
      obtain ⟨_, eH⟩ := rh.si hn e
      exact .inr (.inr (.inl ⟨_, rfl, .inr ⟨_, _, eH, o m H _ rh Mv.refl (.int _)⟩⟩))
    · rename_i kvs e
      have e1 : rdK h n = some kvs := by unfold rdK; rw [e]
      obtain ⟨kus, eH, h1, h2⟩ := rh.dk hn e1
      have hl : kvs.length = kus.length := by simpa using congrArg List.length h1
      exact .inr (.inr (.inr (.inl ⟨_, kus, rfl, eH, o m H _ rh Mv.refl (by rw [hl]; exact .int _)⟩)))
    · rename_i kvs e
      have e1 : rdN h n = some kvs := by unfold rdN; rw [e]
      obtain ⟨xs, R, D⟩ := rh.dn hn e1
      have hl : kvs.length = xs.length := by simpa using congrArg List.length R.1
      exact .inr (.inr (.inr (.inr ⟨_, xs, rfl, D, o m H _ rh Mv.refl (by rw [hl]; exact .int _)⟩)))
    · exact .inl (cs_len cl Wx m h H _ _ Q rh (.cons (.ref n hn) .nil) o)
  · exact .inl (cs_len cl Wx m h H _ _ Q rh r o)
def kW : Key → W
  | .inl i => .int i
  | .inr x => .str x
theorem kW_rw (k : Key) : RW G m n H (kW k) (kV k) := by cases k <;> first | exact .int _ | exact .str _
def bLst3 : List W → Hpe → Res W
  | [.ref n], h => match h.get n with
    | some (.dk kvs) => h.al (.lst (kvs.map fun kv => kW kv.1))
    | _ => bLst [.ref n] h
  | ws, h => bLst ws h
def rLst3 (G : GC) : List V → Hp → VK → Prop := fun xs H Q => (∃ p ys, xs = [V.ref p] ∧ (SqL G.K H p ys ∨ SqT G.K H p ys) ∧ ∀ (l : Addr), H l = none → Q (V.ref l) (upd H l (HO.lst ys))) ∨
  ∃ (a : Addr) (kvs : List (Key × V)), xs = [.ref a] ∧ Rd H a (.dK kvs) ∧ ∀ p, H p = none → Q (.ref p) (upd H p (.lst (kvs.map fun kv => kV kv.1)))
theorem keys_rw : ∀ {kvs : List (Key × W)} {kus : List (Key × V)}, kvs.map (·.1) = kus.map (·.1) → RWs G m n H (kvs.map fun kv => kW kv.1) (kus.map fun kv => kV kv.1)
  | [], [], _ => .nil
  | [], _ :: _, h => by simp at h
  | _ :: _, [], h => by simp at h
  | p :: kvs, q :: kus, h => by
    simp only [List.map_cons, List.cons.injEq] at h
    rw [List.map_cons, List.map_cons, h.1]
    exact .cons (kW_rw _) (keys_rw h.2)
theorem cs_lst3 : ClS G (rLst3 G) bLst3 := by
  intro cl Wx m h H ws vs Q rh r o
  unfold bLst3 at o
  split at o
  · rename_i n
    obtain ⟨v, rfl, rv⟩ := rws_one r
    obtain ⟨rfl, hn⟩ := rw_ref rv
    split at o
    · rename_i kvs e
      have e1 : rdK h n = some kvs := by unfold rdK; rw [e]
      obtain ⟨kus, eH, h1, h2⟩ := rh.dk hn e1
      exact .inr ⟨_, kus, rfl, .inl eH, al_ok rh o (.lst (keys_rw h1))⟩
    · exact .inl (cs_lst cl Wx m h H _ _ Q rh (.cons (.ref n hn) .nil) o)
  · exact .inl (cs_lst cl Wx m h H _ _ Q rh r o)
end
section
variable {X : Cx} {B : Bx} {e : Expr} {fs : FA} {pos p : Pos}
theorem se_len3 (hK : X.K = B.G.K) (hm' : Hm X B.G) (hm : X.mg "len" = none) (hg : Gl X "len") (ha : SA X B [e] fs) (h3 : starEach [e] X.env = (false, eval e X.env) :: starEach [] X.env) (h4 : (backTo pos (starEach [] X.env)).any (·.1) = false) : SE X B (.Call (.Name "len" p) [e] [] pos) (eBl bLen3 fs) :=
  se_bl' (r := rLen3 B.G) (CallR.or (by rw [← hK]; exact call_len_seq) (call_len_str.or (CallR.or (by rw [← hm'.w]; exact cr_lenS) (call_lenD.or (cr_lenN hK hm'))))) cs_len3 hg hm PySem.boot_len ha (by decide) (by decide) h3 h4
theorem se_lst3 (hK : X.K = B.G.K) (hc : X.calm = true) (hm : X.mg "list" = none) (hg : Gl X "list") (ha : SA X B [e] fs) (h3 : starEach [e] X.env = (false, eval e X.env) :: starEach [] X.env) (h4 : (backTo pos (starEach [] X.env)).any (·.1) = false) : SE X B (.Call (.Name "list" p) [e] [] pos) (eBl bLst3 fs) :=
  se_ty (r := rLst3 B.G) (CallR.or (by rw [← hK]; exact call_list_of) (call_listD hc)) cs_lst3 hg hm (by decide +kernel) ha (by decide) (by decide) h3 h4
end
end EV
namespace EV
open PySem PySem.Spec PyProof.Rows L2
def gTL (n : Nat) (gs : FGs) : FG := fun w ρ h => match rdS w h with
  | some ws => bif Nat.beq ws.length n then gs ws ρ h else .no
  | none => .no
section
variable {X : Cx} {B : Bx} {tgs : List Expr} {gs : FGs} {us : List Nat} {pos : Pos}
theorem pg_seq {K : PySem.W.Frag} {tg : Expr} {t t' : TG} (h : PG X tg t) (h' : PG X tg t') : PG X tg (fun v σ H Q => t v σ H Q ∨ t' v σ H Q) :=
  ⟨fun pins s σ H v u Q I r q => q.elim (h.run pins s σ H v u Q I r) (h'.run pins s σ H v u Q I r)⟩
theorem sg_tl (hK : X.K = B.G.K) {n k : Nat} (hc : X.calm = true) (h : SGs X B tgs gs us) (hn : (assignEach tgs X.env).length = n) (hst : (assignEach tgs X.env).findIdx? (·.1) = none) : SG X B (.Tuple tgs k pos) (gTL n gs) us :=
  pg_imp (pg_seq (K := X.K) (pg_tup hc h hn hst) (pg_unl hc h hn hst)) fun v σ H Q ⟨m, h, ρ, w, s, r, o⟩ => by
    simp only [gTL] at o
    split at o
    · rename_i ws e
      obtain ⟨p, xs, rfl, sq, q⟩ := rdS_ok s.rh r e
      cases c : Nat.beq ws.length n with
      | false => rw [c] at o; exact o.elim
      | true =>
        rw [c] at o
        rcases sq with sq | sq
        · exact .inr ⟨p, xs, rfl, by rw [hK]; exact sq, by rw [← q.len]; exact beq_eq c, m, h, ρ, ws, s, q, o⟩
        · exact .inl ⟨p, xs, rfl, by rw [hK]; exact sq, by rw [← q.len]; exact beq_eq c, m, h, ρ, ws, s, q, o⟩
    · exact o.elim
end
end EV
namespace EV
open PySem PySem.Spec PyProof.Rows L2
section
variable {X : Cx}
end
section
variable {G : GC} {m : Nat → Addr} {n : Nat} {H : Hp} {h : Hpe}
end
def Put1 (K : PySem.W.Frag) (P : Program) (w : World) (p : Addr) (x y : V) (H H' : Hp) : Prop :=
  (∃ b k xs, x = .ref b ∧ DnAt P w K H p xs ∧ Nk K H k x ∧ k.depth ≤ 8 ∧ xs.length < sizeLine ∧ H' = upd H p (dnO P w p (putV xs k b y))) ∨
  ∃ kvs k, x = kV k ∧ H p = some (.dK kvs) ∧ kvs.length < sizeLine ∧ H' = upd H p (.dK (putK kvs k y))
inductive Puts (K : PySem.W.Frag) (P : Program) (w : World) (p : Addr) : List (V × V) → Hp → Hp → Prop
  | nil {H : Hp} : Puts K P w p [] H H
  | cons {x y : V} {r : List (V × V)} {H H1 H2 : Hp} : Put1 K P w p x y H H1 → Puts K P w p r H1 H2 → Puts K P w p ((x, y) :: r) H H2
section
variable {X : Cx} {pins : List (Addr × Obj)} {σ : L2.St} {H : Hp} {s : Shared} {p : Addr} {A : Around} {E : Value → Shared → Prop}
end
section
variable {G : GC} {m : Nat → Addr} {H : Hp} {h h' : Hpe} {n : Nat}
end
section
variable {X : Cx} {B : Bx} {a b : Expr} {fa fb : FE} {pos : Pos} {keys : List (Option Expr)} {values : List Expr} {ps : Prs}
end
end EV
namespace EV
open PySem PySem.Spec PyProof.Rows L2
section
variable {X : Cx}
end
section
variable {G : GC} {m : Nat → Addr} {n : Nat} {H : Hp} {h : Hpe}
end
section
variable {X : Cx} {B : Bx} {a b : Expr} {fa fb : FE} {pos : Pos}
end
end EV
namespace EV
open PySem PySem.Spec PyProof.Rows L2
section
variable {X : Cx}
end
section
variable {G : GC} {m : Nat → Addr} {n : Nat} {H : Hp} {h : Hpe}
end
section
variable {X : Cx} {B : Bx} {a b : Expr} {fa fb : FE} {pos : Pos}
end
end EV
namespace EV
open PySem PySem.Spec PyProof.Rows L2
theorem note_by {e : Value} {env env' : Env} (h : env.frame = env'.frame) : noteFrame e env = noteFrame e env' := by
  unfold noteFrame PySem.frameOf
  simp only [h]
section
variable {M : Model} {A : Around} {E₁ : Value → Shared → Prop} {s : Shared} {base : Heap} {Z : Obj → Prop} {env : Env} {outer : List Env} {e L : Addr}
theorem note_other {fl : Value} {Q : Unit → Shared → Prop} (hZ : HandSPX.Steady Z) (hfr : A.frames = some (env :: outer)) (hf : env.frame = some L) (kb : base.StaysIn s.heap) (en : base.get? e = none) (hl : s.heap.FunFrames base (env :: outer)) (ht : HandSPX.TracedZ s.heap base e Z fl) (hne : (fl == rawInt L) = false)
    (q : ∀ h', HandSPX.HeldZ base (env :: outer) e Z L h' → s.heap.UpToSlots h' → Q () { s with heap := h' }) : wpAny M A (noteFrame (.ref e) env) Q E₁ s := by
  obtain ⟨oe, vs, T, oT, ts, he, hz, hd, h1, hnT, hTe, hT, hdT, h3⟩ := ht
  unfold noteFrame
  simp only [hf]
  refine wpAny_bind (wpAny_field he hd h1 (wp_if_pos (by simp) (wpAny_bind (wpAny_field hT hdT h3 ?_))))
  rw [hne]
  have sz := (Array.getElem?_eq_some_iff.mp h3).1
  refine wp_if_neg Bool.false_ne_true (wpAny_bind (wpAny_setField hT hdT sz ?_))
  have same : ∀ b, b ≠ T → (s.heap.update T (Obj.mapFields (·.setIfInBounds 3 Value.none))).get? b = s.heap.get? b := fun b hb => Heap.get?_update_other _ _ (Ne.symm hb)
  have notT : ∀ b o, s.heap.get? b = some o → (∀ vs, o.data ≠ .fields vs) → b ≠ T := fun b o hb hn z => by
    rw [z, hT] at hb; cases hb; exact hn ts hdT
  refine HandSPX.wpAny_entryZ hZ hfr (hl.of_keeps fun b o hb hn => ⟨o, (same b (notT b o hb hn)).trans hb, rfl⟩) hf ((same e (Ne.symm hTe)).trans he) (fun b o hb => (same b fun z => by rw [z, hnT] at hb; cases hb).trans (kb b o hb)) en hd (Array.getElem?_eq_some_iff.mp h1).1 hz fun h' x => ?_
  obtain ⟨x1, x2, x3, x4⟩ := x
  exact q h' ⟨x1, en, x2, x3⟩ fun b o hb hn => x4 b o ((same b (notT b o hb hn)).trans hb) hn
end
theorem funFrames_at {base h h' : Heap} : ∀ {l : List Env}, h.FunFrames base l → (∀ L ∈ frs l, h'.get? L = h.get? L) → h'.FunFrames base l
  | [], _, _ => trivial
  | env :: l, x, k => by
    obtain ⟨hk, ⟨L, o, hf, hn, ho, hd⟩, hr⟩ := x
    exact ⟨hk, ⟨L, o, hf, hn, (k L (List.mem_filterMap.mpr ⟨env, List.mem_cons_self .., hf⟩)).trans ho, hd⟩, funFrames_at hr fun b hb => by
      obtain ⟨e, he, q⟩ := List.mem_filterMap.mp hb
      exact k b (List.mem_filterMap.mpr ⟨e, List.mem_cons_of_mem _ he, q⟩)⟩
def StkAt (X : Cx) (L : Addr) : Prop := ∃ env0 outer0, X.stack = env0 :: outer0 ∧ env0.frame = some L ∧ X.env.frame = some L
def XEH (X : Cx) (L : Addr) (W : WX) (u : Value) (s' : Shared) : Prop :=
  ∃ (a : Addr) (B : Heap) (sI : Shared) (pins : List (Addr × Obj)) (σ : L2.St) (H : Hp) (cls : Value) (d : Option Addr),
    u = .ref a ∧ Inv X pins σ H sI ∧ (∀ b o, sI.heap.get? b = some o → b ∉ frs X.stack → B.get? b = some o) ∧ sI.heap.UpToSlots s'.heap ∧
      HandSPX.HeldZ B X.stack a (Zc cls d) L s'.heap ∧ H a = none ∧ s'.os = sI.os ∧ AllBare s'.gens ∧ W cls d σ H
def TakesH (X : Cx) (L : Addr) (W : WX) : Prop := ∀ u s', XEH X L W u s' → X.xe u s'
theorem takesH_of {X : Cx} {L : Addr} {W : WX} (tk : Takes X W) (e : X.env.locals = L) : TakesH X L W := fun u s' ⟨a, B, sI, pins, σ, H, cls, d, eu, I, nb, up, hd, na, os, ag, w⟩ =>
  tk u s' ⟨a, B, sI, pins, σ, H, cls, d, eu, I, nb, up, .inr (.inr (by rw [e]; exact hd)), na, os, ag, w⟩
abbrev blkX (X : Cx) (s : Shared) (H : Hp) (scope : Scope) (cenv : Env) (fp : List Addr) : Cx :=
  { X.blk s H scope cenv fp with xe := notedBy (model X.prog X.w) X.A cenv (CompFails (model X.prog X.w) X.A X.xe cenv) }
theorem Inv.out {X : Cx} {xe : Value → Shared → Prop} {pins : List (Addr × Obj)} {σ : L2.St} {H : Hp} {s : Shared} (I : Inv X pins σ H s) : Inv { X with xe := xe } pins σ H s :=
  ⟨⟨I.ok.mod, I.ok.kind, I.ok.glob, I.ok.blt, I.ok.above, I.ok.inj, I.ok.has, I.ok.cab, I.ok.hd, I.ok.frames, I.ok.stk, I.ok.exf, I.ok.bs, I.ok.bsz, I.ok.noex, I.ok.exfs, I.ok.funs, I.ok.frf⟩, I.os, I.bare, I.base, I.loc, I.cell, I.free, I.freeC, I.pin, I.hok, I.len⟩
section
variable {X : Cx} {pins : List (Addr × Obj)} {σ : L2.St} {H3 : Hp} {s3 : Shared} {scope : Scope} {ce : Env} {fp : List Addr} {L : Addr} {W : WX}
theorem blk_out (st : StkAt X L) (th : TakesH X L W) (I3 : Inv X pins σ H3 s3) (f3 : ∀ b ∈ fp, FpOk X pins H3 b ∧ b < s3.heap.objs.size) (hC : ce.locals = s3.heap.objs.size) (hcf : ce.frame = X.env.frame)
    {a : Addr} {B : Heap} {sI s' : Shared} {pins' : List (Addr × Obj)} {σ' : L2.St} {H : Hp} {cls : Value} {d : Option Addr} (I : Inv (blkX X s3 H3 scope ce fp) pins' σ' H sI) (nb : ∀ b o, sI.heap.get? b = some o → b ∉ frs X.stack → B.get? b = some o) (up : sI.heap.UpToSlots s'.heap)
    (na : H a = none) (os : s'.os = sI.os) (ag : AllBare s'.gens) (w : W cls d σ H) {h1 : Heap} (hd : HandSPX.HeldZ B X.stack a (Zc cls d) L h1) (up1 : s'.heap.UpToSlots h1) :
    CompFails (model X.prog X.w) X.A X.xe ce (.ref a) { s' with heap := h1 } := by
  obtain ⟨env0, outer0, e1, e2, e3⟩ := st
  have upI : sI.heap.UpToSlots h1 := up.trans up1
  obtain ⟨mm, hn, _⟩ := I.loc
  have hn : sI.heap.Ns ce.locals mm := hn
  have hn1 : h1.Ns ce.locals mm := Heap.UpToSlots.ns upI hn
  obtain ⟨oC, esC, epC, hoC, hdC, _⟩ := id hn1
  refine ⟨mm, hn1, fun h2 m2 hn2 sb => ?_⟩
  obtain ⟨k1, k2, k3, oe, vs, T, oT, ts, he, hz, hde, h1e, hnT, hTe, hT, hdT, h3⟩ := hd
  have eC : a ≠ ce.locals := fun z => by rw [z, hoC] at he; cases he; rw [hdC] at hde; cases hde
  have TC : T ≠ ce.locals := fun z => by rw [z, hoC] at hT; cases hT; rw [hdC] at hdT; cases hdT
  obtain ⟨B2, b1, b2⟩ := restrict B fun b => decide (b ≠ ce.locals)
  have inB : ∀ b o, B2.get? b = some o → b ≠ ce.locals ∧ B.get? b = some o := fun b o e => by
    by_cases c : b = ce.locals
    · rw [b2 b (by simp [c])] at e; cases e
    · exact ⟨c, by rw [← b1 b (by simp [c])]; exact e⟩
  obtain ⟨G, g1, g2⟩ := restrict sI.heap fun b => decide (b ≠ ce.locals)
  have inG : ∀ b o, G.get? b = some o → b ≠ ce.locals ∧ sI.heap.get? b = some o := fun b o e => by
    by_cases c : b = ce.locals
    · rw [g2 b (by simp [c])] at e; cases e
    · exact ⟨c, by rw [← g1 b (by simp [c])]; exact e⟩
  have nfr : ce.locals ∉ frs X.stack := fun z => by
    obtain ⟨_, o, ho, _⟩ := (I3.stack).mem z
    have := Heap.lt_size ho
    rw [hC] at this
    exact absurd this (Nat.lt_irrefl _)
  have kb2 : B2.StaysIn h2 := fun b o e => by
    obtain ⟨c, e⟩ := inB b o e
    exact (sb.2 b c).trans (k1 b o e)
  have a2 : B2.get? a = none := by
    cases q : B2.get? a with
    | none => rfl
    | some o => have := (inB a o q).2; rw [k2] at this; cases this
  have T2 : B2.get? T = none := by
    cases q : B2.get? T with
    | none => rfl
    | some o => have := (inB T o q).2; rw [hnT] at this; cases this
  have ff2 : h2.FunFrames B2 X.stack := by
    refine funFrames_none (funFrames_at k3 fun b hb => sb.2 b fun z => nfr (by rw [← z]; exact hb)) fun b hb => ?_
    cases q : B2.get? b with
    | none => rfl
    | some o => have := (inB b o q).2; rw [(k3.mem hb).1] at this; cases this
  have he2 : h2.get? a = some oe := (sb.2 a eC).trans he
  have tr2 : HandSPX.TracedZ h2 B2 a (Zc cls d) (rawInt L) := ⟨oe, vs, T, oT, ts, he2, hz, hde, h1e, T2, hTe, (sb.2 T TC).trans hT, hdT, h3⟩
  have up2 : G.UpToSlots h2 := fun b o e hnf => by
    obtain ⟨c, e⟩ := inG b o e
    obtain ⟨sl, q⟩ := upI b o e hnf
    exact ⟨sl, (sb.2 b c).trans q⟩
  unfold PySem.passOn
  refine wpAny_bind (wpAny_field (s := { s' with heap := h2 }) he2 hde h1e (wp_if_neg (by simp) (wpAny_bind ?_)))
  rw [hcf, e3]
  refine HandSPX.setFlight_anyZ (s := { s' with heap := h2 }) kb2 ff2 tr2 fun h4 x1 x2 x3 x4 => wpAny_throw (th _ _ ?_)
  -- the def's own state without the block
  have I7 : Inv X pins σ H sI := I3.call' (ch := fp) I.os I.base I.hok I.bare fun b hb => ⟨(f3 b hb).1.2.2.2.1, (f3 b hb).1.2.1, (f3 b hb).1.2.2.2.2.1, (f3 b hb).1.2.2.2.2.2⟩
  have nC : H ce.locals = none := I.free
  obtain ⟨q0, q1, q2, q3, q4, q5⟩ := I3.fpOk (b := ce.locals) (Nat.le_of_eq hC.symm) nC
  have I8 : Inv X pins σ H { sI with heap := G, toks := sI.toks } := I7.turned (fun b o hb e => by rw [g1 b (by simp [hb])]; exact e) q0 q1 q3 q4 q5
  exact ⟨a, B2, _, pins, σ, H, cls, d, rfl, I8, fun b o e hb => by
    obtain ⟨c, e⟩ := inG b o e
    rw [b1 b (by simp [c])]
    exact nb b o e hb, up2.trans x4, ⟨x1, a2, x2, x3⟩, na, os, ag, w⟩
theorem blk_takes (st : StkAt X L) (th : TakesH X L W) (I3 : Inv X pins σ H3 s3) (f3 : ∀ b ∈ fp, FpOk X pins H3 b ∧ b < s3.heap.objs.size) (hC : ce.locals = s3.heap.objs.size) (hcf : ce.frame = X.env.frame) :
    Takes (blkX X s3 H3 scope ce fp) (fun c d _ H => W c d σ H) ∧ TakesH (blkX X s3 H3 scope ce fp) L (fun c d _ H => W c d σ H) := by
  obtain ⟨env0, outer0, e1, e2, e3⟩ := id st
  have hfr : X.A.frames = some (env0 :: outer0) := by rw [I3.ok.frames, e1]
  refine ⟨fun u s' x => ?_, fun u s' x => ?_⟩
  · obtain ⟨a, B, sI, pins', σ', H, cls, d, rfl, I, nb, up, sky, na, os, ag, w⟩ := x
    show wpAny _ _ (noteFrame (.ref a) ce) _ _ s'
    rw [note_by (env' := env0) (hcf.trans (e3.trans e2.symm))]
    have fin : ∀ h1, HandSPX.HeldZ B (env0 :: outer0) a (Zc cls d) L h1 → s'.heap.UpToSlots h1 → CompFails (model X.prog X.w) X.A X.xe ce (.ref a) { s' with heap := h1 } := fun h1 hh up1 =>
      blk_out st th I3 f3 hC hcf I nb up na os ag w (by rw [e1]; exact hh) up1
    have sky : Sky B (env0 :: outer0) a (Zc cls d) ce.locals s'.heap := by rw [← e1]; exact sky
    rcases sky with ⟨hB, hn, hl, oe, vs, he, hz, hd, h1⟩ | fl | hh
    · exact HandSPX.look_newZ Zc.steady hfr hl e2 he hB hn hd h1 hz fin
    · exact HandSPX.looks_onZ Zc.steady hfr e2 fl fin
    · obtain ⟨y1, y2, y3, y4⟩ := hh
      refine note_other Zc.steady hfr e2 y1 y2 y3 y4 ?_ fin
      cases c : (rawInt ce.locals == rawInt L) with
      | false => rfl
      | true =>
        exfalso
        have e : ce.locals = L := by
          have := eq_of_beq c
          unfold rawInt at this
          injection this with this
          exact Int.ofNat.inj this
        have hm : L ∈ frs X.stack := by rw [e1]; exact List.mem_filterMap.mpr ⟨env0, List.mem_cons_self .., e2⟩
        obtain ⟨_, o, ho, _⟩ := I3.stack.mem hm
        have := Heap.lt_size ho
        rw [← e, hC] at this
        exact absurd this (Nat.lt_irrefl _)
  · obtain ⟨a, B, sI, pins', σ', H, cls, d, rfl, I, nb, up, hh, na, os, ag, w⟩ := x
    show wpAny _ _ (noteFrame (.ref a) ce) _ _ s'
    rw [note_by (env' := env0) (hcf.trans (e3.trans e2.symm))]
    have hh : HandSPX.HeldZ B X.stack a (Zc cls d) L s'.heap := hh
    exact HandSPX.againZ e2 hh.2.2.2 (blk_out st th I3 f3 hC hcf I nb up na os ag w hh (Heap.UpToSlots.refl _))
end
end EV
namespace EV
open PySem PySem.Spec PyProof.Rows L2
inductive CK where
  | lst (e : Expr)
  | set (e : Expr)
  | dct (k v : Expr)
abbrev CK.ex (c : CK) (gens : List Comprehension) (scope : Scope) (pos : Pos) : Expr := match c with
  | .lst e => .ListComp e gens scope pos
  | .set e => .SetComp e gens scope pos
  | .dct k v => .DictComp k v gens scope pos
def CK.more (c : CK) (D : Addr) (env : Env) : Sem Unit := match c with
  | .lst e => eval e env >>= fun x => call (.builtin "list.append") [.ref D, x] >>= fun _ => pure ()
  | .set e => eval e env >>= fun v => standAt e.pos >>= fun _ => call (.builtin "set.add") [.ref D, v] >>= fun _ => pure ()
  | .dct k v => eval k env >>= fun kv => holding [kv] (eval v env) >>= fun vv => standAt { k.pos with endLine := v.pos.endLine, endCol := v.pos.endCol } >>= fun _ => holding [kv, vv] (dictSet D kv vv)
section
variable {prog : Program} {w : World} {A : Around} {s : Shared} {c : CK} {gens : List Comprehension} {scope : Scope} {pos : Pos} {j : Nat} {it : Value} {D : Addr} {env : Env} {tg iter : Expr} {ifs : List Expr}
def BodyOk (prog : Program) (w : World) (A : Around) (c : CK) (gens : List Comprehension) (scope : Scope) (pos : Pos) (j : Nat) (D : Addr) (env : Env) (NE : Value → Shared → Prop) (P : Shared → Prop) (s : Shared) : Prop := match gens[j + 1]? with
  | some g => wpAny (model prog w) A (eval g.iter env) (fun x s4 => wpAny (model prog w) A (pyIter x) (fun it1 s5 => codeAny (model prog w) A (.compStart (c.ex gens scope pos) (j + 1) it1 (.ref D) env) (fun r s' => match r with
      | .ok _ => P s'
      | .error e => cameBackBy (model prog w) A env NE e s') s5) NE s4) NE s
  | none => wpAny (model prog w) A (c.more D env) (fun _ s5 => P s5) NE s
def testsC (ifs : List Expr) (env : Env) : Sem Bool := forIn ifs true fun c r => if r = true then do let ok ← isTrue c env (eval c env); pure (ForInStep.yield ok) else pure (ForInStep.yield r)
theorem turn_wp (hg : gens[j]? = some ⟨tg, iter, ifs, 0⟩) (h0 : ∀ g, gens[j + 1]? = some g → g.is_async = 0 ∧ ∀ x, foldedSetIterable g.iter env x = pure x) {Q : PySem.Fin → Shared → Prop} {NE : Value → Shared → Prop} {P : Shared → Prop}
    (hP : ∀ s', P s' → Q (.again (.compLoop (c.ex gens scope pos) j it (.ref D) env)) s')
    (h : wpAny (model prog w) A (pyNext it) (fun r s1 => match r with
      | none => Q (.done .next) s1
      | some v => wpAny (model prog w) A (letOwnedTupleGo tg it v) (fun _ s2 => wpAny (model prog w) A (assign tg env v) (fun _ s3 => wpAny (model prog w) A (testsC ifs env) (fun ok s4 =>
          if ok = true then BodyOk prog w A c gens scope pos j D env NE P s4 else P s4) NE s3) NE s2) NE s1) NE s) :
    wpAny (model prog w) A (compTurn (c.ex gens scope pos) j it (.ref D) env) Q NE s := by
  have last : ∀ s', P s' → wpAny (model prog w) A (again (.compLoop (c.ex gens scope pos) j it (.ref D) env)) Q NE s' := fun s' p => wpAny_pure (hP s' p)
  cases hn : gens[j + 1]? with
  | none =>
    have body : ∀ s4, BodyOk prog w A c gens scope pos j D env NE P s4 → wpAny (model prog w) A (c.more D env) (fun _ s5 => P s5) NE s4 := fun s4 b => by
      unfold BodyOk at b
      rw [hn] at b
      exact b
    cases c <;>
    · unfold compTurn
      simp only [hg, hn]
      refine wpAny_bind (wpAny_standAt (wpAny_bind (wpAny_mono h (fun r s1 h1 => ?_) fun _ _ z => z)))
      cases r with
      | none => exact wpAny_pure h1
      | some v =>
        refine wpAny_bind (wpAny_mono h1 (fun _ s2 h2 => wpAny_bind (wpAny_mono h2 (fun _ s3 h3 => wpAny_bind (wpAny_mono h3 (fun ok s4 h4 => ?_) fun _ _ z => z)) fun _ _ z => z)) fun _ _ z => z)
        cases ok with
        | false => exact last s4 h4
        | true => exact wp_if_pos rfl (wpAny_bind (wpAny_mono (body s4 h4) (fun _ s5 p => last s5 p) fun _ _ z => z))
  | some g =>
    obtain ⟨as0, fold0⟩ := h0 g hn
    have body : ∀ s4, BodyOk prog w A c gens scope pos j D env NE P s4 → wpAny (model prog w) A (eval g.iter env) (fun x s4 => wpAny (model prog w) A (pyIter x) (fun it1 s5 => codeAny (model prog w) A (.compStart (c.ex gens scope pos) (j + 1) it1 (.ref D) env) (fun r s' => match r with
        | .ok _ => P s'
        | .error e => cameBackBy (model prog w) A env NE e s') s5) NE s4) NE s4 := fun s4 b => by
      unfold BodyOk at b
      rw [hn] at b
      exact b
    cases c <;>
    · unfold compTurn
      simp only [hg, hn]
      refine wpAny_bind (wpAny_standAt (wpAny_bind (wpAny_mono h (fun r s1 h1 => ?_) fun _ _ z => z)))
      cases r with
      | none => exact wpAny_pure h1
      | some v =>
        refine wpAny_bind (wpAny_mono h1 (fun _ s2 h2 => wpAny_bind (wpAny_mono h2 (fun _ s3 h3 => wpAny_bind (wpAny_mono h3 (fun ok s4 h4 => ?_) fun _ _ z => z)) fun _ _ z => z)) fun _ _ z => z)
        cases ok with
        | false => exact last s4 h4
        | true =>
          refine wp_if_pos rfl ?_
          simp only [as0]
          refine wpAny_bind (wpAny_mono (body s4 h4) (fun x s5 h5 => ?_) fun _ _ z => z)
          refine wpAny_bind (wpAny_standAt (wpAny_bind (wpAny_of_eq (fold0 x) (wpAny_bind (wpAny_holding (wpAny_mono h5 (fun it1 s6 h6 => ?_) fun _ _ z => z))))))
          refine wpAny_bind (wpAny_runOwn ?_)
          rw [Around.mark_none]
          refine codeAny_mono h6 fun r s' hr => ?_
          cases r with
          | ok f => exact last s' hr
          | error e => exact hr
theorem loop_at (hg : gens[j]? = some ⟨tg, iter, ifs, 0⟩) (h0 : ∀ g, gens[j + 1]? = some g → g.is_async = 0 ∧ ∀ x, foldedSetIterable g.iter env x = pure x) {R : Result → Shared → Prop} (I : Nat → Shared → Prop)
    (turn : ∀ n s, I n s → wpAny (model prog w) A (pyNext it) (fun r s1 => match r with
      | none => R (.ok .next) s1
      | some v => wpAny (model prog w) A (letOwnedTupleGo tg it v) (fun _ s2 => wpAny (model prog w) A (assign tg env v) (fun _ s3 => wpAny (model prog w) A (testsC ifs env) (fun ok s4 =>
          if ok = true then BodyOk prog w A c gens scope pos j D env (notedBy (model prog w) A env fun e s' => R (.error e) s') (fun s' => ∃ m, m < n ∧ I m s') s4 else ∃ m, m < n ∧ I m s4)
          (notedBy (model prog w) A env fun e s' => R (.error e) s') s3) (notedBy (model prog w) A env fun e s' => R (.error e) s') s2) (notedBy (model prog w) A env fun e s' => R (.error e) s') s1) (notedBy (model prog w) A env fun e s' => R (.error e) s') s)
    (n : Nat) (h : I n s) : codeAny (model prog w) A (.compLoop (c.ex gens scope pos) j it (.ref D) env) R s := by
  cases c <;>
  · refine codeAny_loop rfl I (fun n s hI => ?_) n h
    refine wpAny_noted (m := compTurn _ j it (.ref D) env) ?_
    exact turn_wp hg h0 (fun s' p => ⟨rfl, p⟩) (turn n s hI)
theorem start_at (hg : gens[j]? = some ⟨tg, iter, ifs, 0⟩) {R : Result → Shared → Prop} (h1 : codeAny (model prog w) A (.compLoop (c.ex gens scope pos) j it (.ref D) env) R s)
    (h2 : wpAny (model prog w) A (pyIter it) (fun it' s' => codeAny (model prog w) A (.compLoop (c.ex gens scope pos) j it' (.ref D) env) R s') (notedBy (model prog w) A env fun x s' => R (.error x) s') s) :
    codeAny (model prog w) A (.compStart (c.ex gens scope pos) j it (.ref D) env) R s := by
  cases c <;>
  · refine codeAny_of_tree ?_
    refine wpAny_notedAt (m := compStart _ j it (.ref D) env) ?_
    unfold compStart
    simp only [CK.ex, clausesOf, hg]
    refine wpAny_bind (wpAny_askSetting (wpAny_ite ?_))
    split
    · exact wpAny_bind (wpAny_pure (wpAny_pure ⟨rfl, h1⟩))
    · exact wpAny_bind (wpAny_rule (wpAny_bind (wpAny_standAt (wpAny_bind (wpAny_mono h2 (fun it' s' h' => wpAny_pure ⟨rfl, h'⟩) fun _ _ x => x)))))
end
end EV
namespace EV
open PySem PySem.Spec PyProof.Rows L2
abbrev TB := L2.St → Hp → (Hp → Prop) → Prop
theorem BodyOk.mono {prog : Program} {w : World} {A : Around} {s : Shared} {c : CK} {gens : List Comprehension} {scope : Scope} {pos : Pos} {j : Nat} {D : Addr} {env : Env} {NE : Value → Shared → Prop} {P P' : Shared → Prop} (h : BodyOk prog w A c gens scope pos j D env NE P s) (f : ∀ s', P s' → P' s') : BodyOk prog w A c gens scope pos j D env NE P' s := by
  unfold BodyOk at h ⊢
  split at h
  · rename_i g e
    refine wpAny_mono h (fun x s4 h4 => wpAny_mono h4 (fun it1 s5 h5 => codeAny_mono h5 fun r s' hr => ?_) fun _ _ z => z) fun _ _ z => z
    cases r with
    | ok _ => exact f s' hr
    | error _ => exact hr
  · exact wpAny_mono h (fun _ s5 p => f s5 p) fun _ _ z => z
structure PBd (X : Cx) (c : CK) (gens : List Comprehension) (scope : Scope) (pos : Pos) (j : Nat) (D : Addr) (bt : TB) (vs : List Nat) : Prop where
  run : ∀ (pins : List (Addr × Obj)) (s : Shared) (σ : L2.St) (H : Hp) (Q : Hp → Prop) (NE : Value → Shared → Prop), Inv X pins σ H s → bt σ H Q → (∀ e s', X.xe e s' → NE e s') →
    BodyOk X.prog X.w X.A c gens scope pos j D X.env NE (fun s' => ∃ H', Inv X pins (L2.wipe σ vs) H' s' ∧ Q H') s
def Turns (J : It) (g : TG) (tt : TT) (bt : TB) (vs : List Nat) (σ : L2.St) (Q : Hp → Prop) (W : Nat → Nat → Hp → Prop) : Prop := ∀ i m H, W i m H → (J.stop i H ∧ Q H) ∨ (J.go i H ∧ ∃ Nx : Hp → Prop, (∀ H', Nx H' → ∃ m', m' < m ∧ W (i + 1) m' H') ∧
  ∀ x H', J.yld i H x H' → g x (L2.wipe σ vs) H' fun σ2 H2 => L2.wipe σ2 vs = L2.wipe σ vs ∧ tt σ2 H2 fun b H3 => if b = true then bt σ2 H3 Nx else Nx H3)
section
variable {X : Cx} {c : CK} {gens : List Comprehension} {scope : Scope} {pos : Pos} {j : Nat} {D : Addr} {tg iter : Expr} {ifs : List Expr} {wi : TI} {g : TG} {tt : TT} {bt : TB} {vs vsI : List Nat}
def GensOk (gens : List Comprehension) (env : Env) (j : Nat) : Prop := ∀ g, gens[j + 1]? = some g → g.is_async = 0 ∧ ∀ x, foldedSetIterable g.iter env x = pure x
theorem loop_run (hc : X.calm = true) (hg : gens[j]? = some ⟨tg, iter, ifs, 0⟩) (h0 : GensOk gens X.env j) (pg : PG X tg g) (pt : PTs X ifs tt) (pb : PBd X c gens scope pos j D bt vsI) (hsub : ∀ i ∈ vsI, i ∈ vs)
    {it : Addr} {fp : List Addr} {tn : Nat → Heap → Prop} {J : It} (T : Turn X.prog X.w X.K tg J fp it tn) {pins : List (Addr × Obj)} {σ : L2.St} (sta : ∀ H' : Hp, (∀ b ∈ fp, H' b = none) → ∀ b ∈ fp, FpOk X pins H' b) {Q : Hp → Prop} {W : Nat → Nat → Hp → Prop} (turn : Turns J g tt bt vs σ Q W)
    {R : Result → Shared → Prop} (Rok : ∀ s' H', Inv X pins (L2.wipe σ vs) H' s' → Q H' → R (.ok .next) s') (Rer : ∀ e s', X.xe e s' → notedBy (model X.prog X.w) X.A X.env (fun e s' => R (.error e) s') e s')
    {m : Nat} {H : Hp} {s : Shared} (I : Inv X pins (L2.wipe σ vs) H s) (st : tn 0 s.heap) (nfp : ∀ b ∈ fp, H b = none) (w0 : W 0 m H) : codeAny (model X.prog X.w) X.A (.compLoop (c.ex gens scope pos) j (.ref it) (.ref D) X.env) R s := by
  refine loop_at hg h0 (fun n s' => ∃ i H', Inv X pins (L2.wipe σ vs) H' s' ∧ tn i s'.heap ∧ (∀ b ∈ fp, H' b = none) ∧ W i n H') ?_ m ⟨0, H, I, st, nfp, w0⟩
  rintro n s5 ⟨i, H5, I5, st5, n5, w5⟩
  rcases turn i n H5 w5 with ⟨stop, q⟩ | ⟨go, Nx, next, step⟩
  · refine wpAny_mono (T.done X rfl rfl rfl hc i pins s5 _ H5 _ I5 (sta H5 n5) st5 stop) (fun r s6 ⟨hr, I6⟩ => ?_) fun _ _ z => z
    subst hr
    exact Rok s6 H5 I6 q
  · refine wpAny_mono (T.item X rfl rfl rfl hc i pins s5 _ H5 _ I5 (sta H5 n5) st5 go) (fun r s6 ⟨u, hr, h6⟩ => ?_) fun _ _ z => z
    subst hr
    refine wpAny_mono h6 (fun _ s7 ⟨x, H7, I7, r7, y7, st7, n7⟩ => ?_) fun _ _ z => z
    have I7' := I7.pinned (sta H7 n7) (T.obj _ _ st7)
    refine wpAny_mono (pg.run _ s7 _ H7 x u _ I7' r7 (step x H7 y7)) (fun _ s8 ⟨σ8, H8, I8, hw8, q8⟩ => ?_) Rer
    refine wpAny_mono (pt.run _ s8 σ8 H8 _ I8 q8) (fun b s9 ⟨H9, I9, q9⟩ => ?_) Rer
    have fin : ∀ {σ9 : L2.St} {s' : Shared} {H' : Hp}, Inv X (pins ++ pinsAt fp s7.heap) σ9 H' s' → (L2.wipe σ vs).length = σ9.length → (∀ (k : Nat) v, (L2.wipe σ vs)[k]? = some (some v) → σ9[k]? = some (some v)) → Nx H' →
        ∃ m, m < n ∧ ∃ i H', Inv X pins (L2.wipe σ vs) H' s' ∧ tn i s'.heap ∧ (∀ b ∈ fp, H' b = none) ∧ W i m H' := fun {σ9 s' H'} I' hl hk nx => by
      obtain ⟨m', hm, w'⟩ := next H' nx
      have pin' : ∀ b ∈ fp, ∀ o, s7.heap.get? b = some o → s'.heap.get? b = some o ∧ H' b = none := fun b hb o e =>
        let z := I'.pin (b, o) (List.mem_append_right _ (List.mem_append_right _ (mem_pinsAt hb e)))
        ⟨z.1, z.2.1⟩
      refine ⟨m', hm, i + 1, H', I'.unpinned.weak hl hk, T.keep _ _ _ st7 fun b hb o e => (pin' b hb o e).1, fun b hb => ?_, w'⟩
      obtain ⟨o, e, _⟩ := T.obj _ _ st7 b hb
      exact (pin' b hb o e).2
    have hl8 : (L2.wipe σ vs).length = σ8.length := by rw [← hw8, L2.wipe_length]
    cases b with
    | false =>
      rw [if_neg Bool.false_ne_true] at q9 ⊢
      exact fin I9 hl8 (fun k v e => by rw [← hw8] at e; exact (wipe_some e).1) q9
    | true =>
      rw [if_pos rfl] at q9 ⊢
      refine (pb.run _ s9 σ8 H9 Nx _ I9 q9 Rer).mono fun s' ⟨H', I', nx⟩ => fin I' (hl8.trans (L2.wipe_length σ8 vsI).symm) (fun k v e => ?_) nx
      rw [← hw8] at e
      obtain ⟨e1, e2⟩ := wipe_some e
      rw [wipe_out fun z => e2 (hsub k z)]
      exact e1
end
section
variable {X : Cx} {gens : List Comprehension} {scope : Scope} {pos : Pos} {j : Nat} {D : Addr} {e k v : Expr} {te tk tv : TE}
def tMoreL (te : TE) (D : Addr) : TB := fun σ H Q => te σ H fun y H4 => ∃ acc, H4 D = some (.lst acc) ∧ acc.length < sizeLine ∧ Q (upd H4 D (.lst (acc ++ [y])))
theorem more_l (hn : gens[j + 1]? = none) (he : PE X e te) : PBd X (.lst e) gens scope pos j D (tMoreL te D) [] := by
  refine ⟨fun pins s σ H Q NE I h hx => ?_⟩
  unfold BodyOk
  rw [hn]
  refine wpAny_bind (wpAny_mono (he.run pins s σ H _ I h) (fun u s4 ⟨y, H4, I4, r4, acc, hD, hz, q⟩ => ?_) hx)
  exact wpAny_bind (wpAny_mono (app_ok I4 hD hz r4 (Q := fun _ s' => ∃ H', Inv X pins σ H' s' ∧ Q H') fun s5 I5 => ⟨_, I5, q⟩) (fun _ s5 z => wpAny_pure z) hx)
end
end EV
namespace EV
open PySem PySem.Spec PyProof.Rows L2
def CK.new (c : CK) : Sem Value := match c with
  | .lst _ => newList []
  | .set _ => newSet (.type "set")
  | .dct _ _ => newDict
def CK.ho (c : CK) (w : World) (D : Addr) : HO := match c with
  | .lst _ => .lst []
  | .set _ => snO w D []
  | .dct _ _ => .dK []
section
variable {X : Cx} {pins : List (Addr × Obj)} {σ : L2.St} {H : Hp} {s : Shared} {c : CK}
theorem acc_new {E : Value → Shared → Prop} {A : Around} {Q : Value → Shared → Prop} (I : Inv X pins σ H s)
    (q : ∀ s3, (∀ b o, s.heap.get? b = some o → s3.heap.get? b = some o) → Inv X pins σ (upd H s.heap.objs.size (c.ho X.w s.heap.objs.size)) s3 → Q (.ref s.heap.objs.size) s3) : wpAny (model X.prog X.w) A c.new Q E s := by
  cases c with
  | lst e =>
    refine wpAny_newList (q { s with heap := _ } (fun b o e => Heap.get?_push_of_some _ e) ?_) (by decide)
    exact I.laid (t' := s.toks) (fun b o e => Heap.get?_push_of_some _ e) (Nat.le_refl _) ⟨Nat.zero_le _, [], 0, .nil, Heap.get?_push_size _ rfl⟩
  | set e =>
    refine wpAny_newSet_raw fun led hl => ?_
    subst hl
    exact q { s with heap := _ } (fun b o e => Heap.get?_push_of_some _ e) (I.laid (t' := s.toks) (fun b o e => Heap.get?_push_of_some _ e) (Nat.le_refl _) (sn_ok (.fresh (Heap.get?_push_size _ rfl))))
  | dct k v =>
    unfold CK.new newDict
    refine wpAny_newObj_type ?_ ?_
    · exact q { s with heap := _ } (fun b o e => Heap.get?_push_of_some _ e) (I.laid (t' := s.toks) (fun b o e => Heap.get?_push_of_some _ e) (Nat.le_refl _) (dk_empty s.heap I.big))
    · show (0 : Nat) ≤ sizeLine + 1
      exact Nat.zero_le _
def LkB (X : Cx) (s : Shared) (H : Hp) (fp : List Addr) : Prop := (∃ pins σ, Inv X pins σ H s) ∧ ∀ b ∈ fp, b ∈ X.ex ∨ X.s_0.heap.objs.size ≤ b
def InBlk (X : Cx) (scope : Scope) (L : Addr) (W : WX) (F : Cx → Prop) : Prop := ∀ (s : Shared) (H : Hp) (C : Addr) (cl : List (Str × Addr)) (fp : List Addr), Takes (blkX X s H scope (compEnvC scope cl C X.env) fp) W → TakesH (blkX X s H scope (compEnvC scope cl C X.env) fp) L W → StkAt (blkX X s H scope (compEnvC scope cl C X.env) fp) L → LkB X s H fp →
  F (blkX X s H scope (compEnvC scope cl C X.env) fp)
theorem comp_core {tg iter : Expr} {ifs : List Expr} {rest : List Comprehension} {scope : Scope} {own : List (Str × Nat)} {pos pos' : Pos} {wi : TI} {g : TG} {tt : TT} {bt : Addr → TB} {vsI : List Nat} {use : Option (Value → Sem Unit)} {Q : VK} {Qf : Value → Shared → Prop} {L : Addr} {W : WX}
    (hc : X.calm = true) (hN : X.N.Nodup) (I : Inv X pins σ H s) (hi : PI X tg iter wi) (ok : BlkOk X.N X.env.scope scope own) (st : StkAt X L) (th : TakesH X L W) (hs : ∀ x, foldedSetIterable iter X.env x = pure x)
    (h0 : ∀ env, GensOk (⟨tg, iter, ifs, 0⟩ :: rest) env 0) (hg : InBlk X scope L (fun c d _ H => W c d σ H) fun Y => PG Y tg g) (ht : InBlk X scope L (fun c d _ H => W c d σ H) fun Y => PTs Y ifs tt)
    (hb : InBlk X scope L (fun c d _ H => W c d σ H) fun Y => ∀ D, PBd Y c (⟨tg, iter, ifs, 0⟩ :: rest) scope pos 0 D (bt D) vsI) (hsub : ∀ i ∈ vsI, i ∈ own.map (·.2))
    (h : wi σ H fun J H1 => ∀ D, H1 D = none → ∃ Wm : Nat → Nat → Hp → Prop, (∃ m, Wm 0 m (upd H1 D (c.ho X.w D))) ∧ Turns J g tt (bt D) (own.map (·.2)) σ (fun H' => Q (.ref D) H') Wm)
    (hRR : ∀ D (ce : Env) s' m H', Inv X pins σ H' s' → Q (.ref D) H' → s'.heap.Ns ce.locals m → FpOk X pins H' ce.locals → compEnds (model X.prog X.w) X.A X.xe use Qf (.ref D) ce (.ok .next) s') :
    wpAny (model X.prog X.w) X.A (comprehension (c.ex (⟨tg, iter, ifs, 0⟩ :: rest) scope pos) scope X.env pos' c.new false (eval iter X.env) use) Qf X.xe s := by
  have hfree : ∀ y ∈ scope.names, y.2 = .free → ∃ c, X.env.cells.lookup y.1 = some c := fun y hy e => (ok.free y hy e).elim (fun k => I.ok.has _ (.inl k)) fun k => I.ok.has _ (.inr k)
  refine comprehension_at (g := ⟨tg, iter, ifs, 0⟩) (gs := rest) (use := use) (by cases c <;> rfl) hs (closure_ok hfree) ok.kind (fun y hy e => by rw [ok.uniq y hy, e]) (thn (hi.run pins s σ H _ I h) fun xv s1 hx => thn hx fun itv s2 h2 => ?_)
  obtain ⟨it, fp, tn, J, H2, rfl, I2, T, st2, f2, q⟩ := h2
  refine acc_new I2 fun s3 k3 I3 => newEnv_comp ?_
  generalize hD : s2.heap.objs.size = D at I3 ⊢
  have hDn : H2 D = none := I2.hok.fresh (Nat.le_of_eq hD)
  obtain ⟨Wm, ⟨m0, w0⟩, turn⟩ := q D hDn
  have f3 : ∀ b ∈ fp, FpOk X pins (upd H2 D (c.ho X.w D)) b ∧ b < s3.heap.objs.size := fun b hb => by
    obtain ⟨o, e, _⟩ := T.obj _ _ st2 b hb
    have lt := Heap.lt_size e
    refine ⟨⟨?_, (f2 b hb).2⟩, Heap.lt_size (k3 b o e)⟩
    rw [upd_ne (by rw [← hD]; exact Nat.ne_of_lt lt)]
    exact (f2 b hb).1
  have st3 : tn 0 s3.heap := T.keep _ _ _ st2 fun b _ o e => k3 b o e
  have I4 := block_start I3 ok hN f3
  show codeAny _ _ (.compStart (c.ex (⟨tg, iter, ifs, 0⟩ :: rest) scope pos) 0 (.ref it) (.ref D) (compEnvC scope (cellsFrom (s3.heap.objs.size + 1) scope.names (cloFrom X.env.cells scope.names [])) s3.heap.objs.size X.env))
    (compEnds (model X.prog X.w) X.A X.xe use Qf (.ref D) (compEnvC scope (cellsFrom (s3.heap.objs.size + 1) scope.names (cloFrom X.env.cells scope.names [])) s3.heap.objs.size X.env)) { s3 with heap := pushCells (s3.heap.push { cls := .type "dict", data := .dict #[] }) scope.names }
  have tks := blk_takes (scope := scope) (ce := compEnvC scope (cellsFrom (s3.heap.objs.size + 1) scope.names (cloFrom X.env.cells scope.names [])) s3.heap.objs.size X.env) st th I3 f3 rfl rfl
  have st' : StkAt (blkX X s3 (upd H2 D (c.ho X.w D)) scope (compEnvC scope (cellsFrom (s3.heap.objs.size + 1) scope.names (cloFrom X.env.cells scope.names [])) s3.heap.objs.size X.env) fp) L := st
  have lk : LkB X s3 (upd H2 D (c.ho X.w D)) fp := ⟨⟨_, _, I3⟩, fun b hb => (f3 b hb).1.2.2.2.1⟩
  have pg := hg s3 (upd H2 D (c.ho X.w D)) s3.heap.objs.size _ fp tks.1 tks.2 st' lk
  have pt := ht s3 (upd H2 D (c.ho X.w D)) s3.heap.objs.size _ fp tks.1 tks.2 st' lk
  have pb := hb s3 (upd H2 D (c.ho X.w D)) s3.heap.objs.size _ fp tks.1 tks.2 st' lk D
  generalize hce : compEnvC scope (cellsFrom (s3.heap.objs.size + 1) scope.names (cloFrom X.env.cells scope.names [])) s3.heap.objs.size X.env = ce at I4 pg pt pb ⊢
  have cL : ce.locals = s3.heap.objs.size := by subst hce; rfl
  generalize hH3 : upd H2 D (c.ho X.w D) = H3 at I3 I4 pg pt pb w0 f3
  generalize hs4 : ({ s3 with heap := pushCells (s3.heap.push { cls := .type "dict", data := .dict #[] }) scope.names } : Shared) = s4 at I4 ⊢
  have st4 : tn 0 s4.heap := T.keep _ _ _ st3 fun b _ o e => by rw [← hs4]; exact pushCells_keeps _ _ _ _ (Heap.get?_push_of_some _ e)
  have I5 : Inv (blkX X s3 H3 scope ce fp) [] (L2.wipe σ (own.map (·.2))) H3 s4 := EV.Inv.out I4
  have sta : ∀ H' : Hp, (∀ b ∈ fp, H' b = none) → ∀ b ∈ fp, FpOk (blkX X s3 H3 scope ce fp) [] H' b := fun H' n b hb =>
    ⟨n b hb, (I5.ok.exf b hb).1, I5.ok.exfs b hb, .inl hb, fun x c e => (I5.ok.exf b hb).2 x c e, fun p hp => absurd (show p ∈ ([] : List (Addr × Obj)) ++ [] from hp) (by simp)⟩
  have loop : codeAny (model X.prog X.w) X.A (.compLoop (c.ex (⟨tg, iter, ifs, 0⟩ :: rest) scope pos) 0 (.ref it) (.ref D) ce) (compEnds (model X.prog X.w) X.A X.xe use Qf (.ref D) ce) s4 := by
    refine loop_run (X := blkX X s3 H3 scope ce fp) (R := compEnds (model X.prog X.w) X.A X.xe use Qf (.ref D) ce) hc rfl (h0 ce) pg pt pb hsub T sta turn (fun s' H' I' q => ?_) (fun e s' x => ?_) I5 st4 (fun b hb => (f3 b hb).1.1) w0
    · have I7 : Inv X pins σ H' s' := I3.call' (ch := fp) I'.os I'.base I'.hok I'.bare fun b hb => ⟨(f3 b hb).1.2.2.2.1, (f3 b hb).1.2.1, (f3 b hb).1.2.2.2.2.1, (f3 b hb).1.2.2.2.2.2⟩
      obtain ⟨m, hn, _⟩ := I'.loc
      have nC : H' ce.locals = none := I'.free
      exact hRR D ce s' m H' I7 q hn (I3.fpOk (Nat.le_of_eq cL.symm) nC)
    · have e1 : (fun e s' => compEnds (model X.prog X.w) X.A X.xe use Qf (.ref D) ce (.error e) s') = CompFails (model X.prog X.w) X.A X.xe ce := by
        cases use <;> rfl
      show notedBy _ _ _ (fun e s' => compEnds (model X.prog X.w) X.A X.xe use Qf (.ref D) ce (.error e) s') e s'
      rw [e1]
      exact x
  exact start_at rfl loop (T.self X.A 0 _ _ _ st4 loop)
end
def tComp (c : CK) (w : World) (wi : TI) (g : TG) (tt : TT) (bt : Addr → TB) (vs : List Nat) : TE := fun σ H Q => wi σ H fun J H1 => ∀ D, H1 D = none → ∃ Wm : Nat → Nat → Hp → Prop, (∃ m, Wm 0 m (upd H1 D (c.ho w D))) ∧ Turns J g tt (bt D) vs σ (fun H' => Q (.ref D) H') Wm
end EV
namespace EV
open PySem PySem.Spec PyProof.Rows L2
abbrev FB := Nat → Rho → Hpe → Res Unit
def loopC (g : FG) (t : FT) (body : Rho → Hpe → Res Unit) (src : Src) (ρ : Rho) : Nat → Nat → Hpe → Res Unit
  | 0, _, _ => .no
  | k + 1, i, h => match src h i with
    | none => .no
    | some none => .ok () h
    | some (some w) => match g w ρ h with
      | .nx ρ' h1 => (t ρ' h1).bind fun b h2 => bif b then (body ρ' h2).bind fun _ h3 => loopC g t body src ρ k (i + 1) h3 else loopC g t body src ρ k (i + 1) h2
      | _ => .no
def toU {α : Type} (r : Res α) : Res Unit := r.bind fun _ h => .ok () h
def moreL (fe : FE) : FB := fun n ρ h => (fe ρ h).bind fun y h1 => toU (mApp (.ref n) [y] h1)
def eComp (acc : Ob) (fi : FI) (g : FG) (t : FT) (body : FB) (vs : List Nat) : FE := fun ρ h => (fi ρ h).bind fun src h1 => (h1.al acc).bind fun d h2 => match d with
  | .ref n => (loopC g t (body n) src (wipeR ρ vs) 1000000 0 h2).bind fun _ h3 => .ok (.ref n) h3
  | _ => .no
abbrev RU : (Nat → Addr) → Nat → Hp → Unit → Unit → Prop := fun _ _ _ _ _ => True
def tB (G : GC) (cf : CF) (cl : Cls) (Wk : XK) (D : Addr) (body : FB) : TB := fun σ H Q => ∃ n m h ρ, SS G cf m h ρ σ H ∧ n < h.nx ∧ m n = D ∧ Out G cl RU Wk m h H (body n ρ h) fun _ H' => Q H'
section
variable {G : GC} {cf : CF} {cl : Cls} {Wk : XK} {m m1 : Nat → Addr} {h h1 : Hpe} {H H1 : Hp} {ρ : Rho} {σ : L2.St} {n : Nat} {D : Addr}
theorem ItS.mv {src : Src} {J : It} (i : ItS G m h.nx H src J) (rh : RH G m h H) (mv : Mv m h.nx H m1 h1.nx H1) : ItS G m1 h1.nx H1 src J := fun m' h' H' k r o l t kf =>
  i m' h' H' k r (fun j hj => (o j (Nat.lt_of_lt_of_le hj mv.le)).trans (mv.old j hj)) (Nat.le_trans mv.le l) (TupK.trans (mv.tupk rh) t) fun j hj ob u e => by
    have z := kf j (Nat.lt_of_lt_of_le hj mv.le) ob u (by rw [mv.old j hj]; exact mv.kf j hj ob u e)
    rwa [mv.old j hj] at z
abbrev Bk (G : GC) (cf : CF) (cl : Cls) (Wk : XK) : Bx := ⟨G, cl, fun c d _ H => Wk c d H, cf⟩
theorem turns_ok {J : It} {src : Src} {g : FG} {ft : FT} {body : FB} {us vs : List Nat} {K : Nat} {Q : Hp → Prop} (hvs : ∀ i ∈ us, i ∈ vs) (s1 : SS G cf m1 h1 ρ σ H1) (hn : n < h1.nx) (hD : m1 n = D) (its : ItS G m1 h1.nx H1 src J)
    (o : Out G cl RU Wk m1 h1 H1 (loopC g ft (body n) src (wipeR ρ vs) K 0 h1) fun _ H' => Q H') :
    ∃ W : Nat → Nat → Hp → Prop, (∃ k, W 0 k H1) ∧ Turns J (tG (Bk G cf cl Wk) g us) (tT G cf cl (Bk G cf cl Wk).W ft) (tB G cf cl Wk D body) vs σ Q W := by
  refine ⟨fun i k H' => ∃ m' h', RH G m' h' H' ∧ Mv m1 h1.nx H1 m' h'.nx H' ∧ Out G cl RU Wk m' h' H' (loopC g ft (body n) src (wipeR ρ vs) k i h') fun _ H' => Q H', ⟨K, m1, h1, s1.rh, Mv.refl, o⟩, ?_⟩
  rintro i k H' ⟨m2, h2, r2, v2, o2⟩
  cases k with
  | zero => exact o2.elim
  | succ k =>
    obtain ⟨i1, i2⟩ := its m2 h2 H' i r2 v2.old v2.le (v2.tupk s1.rh) v2.kf
    simp only [loopC] at o2
    cases c : src h2 i with
    | none => rw [c] at o2; exact o2.elim
    | some c' =>
      rw [c] at o2
      cases c' with
      | none =>
        have o2 : Out G cl RU Wk m2 h2 H' (.ok () h2) fun _ H' => Q H' := o2
        exact .inl ⟨i1 c, o2 m2 H' () r2 Mv.refl trivial⟩
      | some w =>
        obtain ⟨go, yl⟩ := i2 w c
        refine .inr ⟨go, fun H3 => ∃ m' h', RH G m' h' H3 ∧ Mv m1 h1.nx H1 m' h'.nx H3 ∧ Out G cl RU Wk m' h' H3 (loopC g ft (body n) src (wipeR ρ vs) k (i + 1) h') fun _ H' => Q H', fun H3 z => ⟨k, Nat.lt_succ_self k, z⟩, fun x H3 y => ?_⟩
        obtain ⟨r3, v3, q3⟩ := yl x H3 y
        have t3 : Mv m1 h1.nx H1 m2 h2.nx H3 := v2.trans (r2.mv_ne v2) v3
        have s3 : SS G cf m2 h2 (wipeR ρ vs) (L2.wipe σ vs) H3 := ((s1.mv r2 v2).mv r3 v3).wipe vs
        refine ⟨m2, h2, wipeR ρ vs, w, s3, q3, ?_⟩
        cases cg : g w (wipeR ρ vs) h2 with
        | nx ρ4 h4 =>
          simp only [cg] at o2
          intro m4 H4 σ4 s4 v4 oth
          have t4 : Mv m1 h1.nx H1 m4 h4.nx H4 := t3.trans (r3.mv_ne t3) v4
          have o4 := Out.shift r2 s4.rh (v3.trans (r3.mv_ne v3) v4) o2
          refine ⟨by rw [(oth.sub hvs).wipe, DL.wipe_wipe], m4, h4, ρ4, s4, (Out.bind s4.rh o4).mono fun b H5 ⟨b', m5, h5, r5, v5, eb, o5⟩ => ?_⟩
          obtain rfl : b' = b := eb
          have t5 : Mv m1 h1.nx H1 m5 h5.nx H5 := t4.trans (s4.rh.mv_ne t4) v5
          cases b' with
          | false => rw [if_neg Bool.false_ne_true]; exact ⟨m5, h5, r5, t5, o5⟩
          | true =>
            rw [if_pos rfl]
            have hn5 : n < h5.nx := Nat.lt_of_lt_of_le hn t5.le
            refine ⟨n, m5, h5, ρ4, s4.mv r5 v5, hn5, (t5.old n hn).trans hD, (Out.bind r5 o5).mono fun _ H6 ⟨_, m6, h6, r6, v6, _, o6⟩ => ?_⟩
            exact ⟨m6, h6, r6, t5.trans (r5.mv_ne t5) v6, o6⟩
        | ex _ _ _ => simp only [cg] at o2; exact o2.elim
        | no => simp only [cg] at o2; exact o2.elim
        | rt _ _ => simp only [cg] at o2; exact o2.elim
        | bk _ _ => simp only [cg] at o2; exact o2.elim
        | ct _ _ => simp only [cg] at o2; exact o2.elim
theorem toU_ok {r : Res W} {Q : Hp → Prop} (rh : RH G m h H) (o : Out G cl RU Wk m h H (toU r) fun _ H' => Q H') : Out G cl (RW G) Wk m h H r fun _ H' => Q H' := (Out.bind rh o).mono fun _ H1 ⟨_, m1, h1, r1, _, _, o1⟩ => o1 m1 H1 () r1 Mv.refl trivial
theorem moreL_ok {fe : FE} {Q : Hp → Prop} (i0 : tB G cf cl Wk D (moreL fe) σ H Q) : tMoreL (tE G cf cl (Bk G cf cl Wk).W fe) D σ H Q := by
  obtain ⟨n, m, h, ρ, s, hn, hD, o⟩ := i0
  refine ⟨m, h, ρ, s, (Out.bind s.rh o).mono fun v H1 ⟨y, m1, h1, r1, v1, q1, o1⟩ => ?_⟩
  have o2 := toU_ok r1 o1
  have hn1 : n < h1.nx := Nat.lt_of_lt_of_le hn v1.le
  have hD1 : m1 n = D := (v1.old n hn).trans hD
  obtain ⟨a, xs, u, e1, e2, e3, e4, q⟩ := ms_app.2 cl Wk m1 h1 H1 (.ref n) [y] (.ref (m1 n)) [v] _ r1 (.ref n hn1) (.cons q1 .nil) o2
  cases e1
  cases e2
  rw [hD1] at e3 q
  exact ⟨xs, e3, e4, q⟩
end
section
variable {Y : Cx} {B : Bx} {Wk : XK} {c : CK} {gens : List Comprehension} {scope : Scope} {pos : Pos} {j : Nat} {tg iter e k v : Expr} {ifs : List Expr} {fi : FI} {g : FG} {ft : FT} {fe fk fv : FE} {body : FB} {us vs vsI : List Nat}
def SBd (Y : Cx) (G : GC) (cf : CF) (cl : Cls) (Wk : XK) (c : CK) (gens : List Comprehension) (scope : Scope) (pos : Pos) (j : Nat) (body : FB) (vs : List Nat) : Prop := ∀ D, PBd Y c gens scope pos j D (tB G cf cl Wk D body) vs
theorem pbd_imp {D : Addr} {bt bt' : TB} (h : PBd Y c gens scope pos j D bt vs) (i : ∀ σ H Q, bt' σ H Q → bt σ H Q) : PBd Y c gens scope pos j D bt' vs := ⟨fun pins s σ H Q NE I q x => h.run pins s σ H Q NE I (i σ H Q q) x⟩
variable {G : GC} {cf : CF} {cl : Cls}
theorem sb_l (hn : gens[j + 1]? = none) (he : SE Y (Bk G cf cl Wk) e fe) : SBd Y G cf cl Wk (.lst e) gens scope pos j (moreL fe) [] := fun D => pbd_imp (more_l hn he) fun _ _ _ z => moreL_ok z
end
section
variable {X : Cx} {B : Bx} {c : CK} {rest : List Comprehension} {scope : Scope} {pos : Pos} {tg iter : Expr} {ifs : List Expr} {fi : FI} {g : FG} {ft : FT} {body : FB} {us vsI : List Nat} {own : List (Str × Nat)} {L : Addr}
def CK.ob (c : CK) : Ob := match c with
  | .lst _ => .lst []
  | .set _ => .st []
  | .dct _ _ => .dk []
theorem CK.ro (c : CK) {G : GC} {m : Nat → Addr} {n : Nat} {H : Hp} (p : Addr) : RO G m n H p c.ob (c.ho G.wo p) := by
  cases c with
  | lst _ => exact .lst .nil
  | set _ => exact .st rfl (fun _ z => nomatch z) .nil
  | dct _ _ => exact .dk (kus := []) rfl .nil
theorem comp_ok {σ : L2.St} {H : Hp} {Q : VK} (hw : X.w = B.G.wo) (hus : ∀ i ∈ us, i ∈ own.map (·.2)) (i0 : tE B.G B.cf B.cl B.W (eComp c.ob fi g ft body (own.map (·.2))) σ H Q) :
    tComp c X.w (tI B fi) (tG (Bk B.G B.cf B.cl fun c d H' => B.W c d σ H') g us) (tT B.G B.cf B.cl (fun c d _ H' => B.W c d σ H') ft) (fun D => tB B.G B.cf B.cl (fun c d H' => B.W c d σ H') D body) (own.map (·.2)) σ H Q := by
  obtain ⟨m, h, ρ, s, o⟩ := i0
  refine ⟨m, h, ρ, s, (Out.bind s.rh o).mono fun J H1 ⟨src, m1, h1, r1, v1, its, o1⟩ D hD => ?_⟩
  have k1 : Out B.G B.cl (RW B.G) (fun c d H' => B.W c d σ H') m1 h1 H1 (h1.al c.ob) fun d H2 => ∃ dw m2 h2, RH B.G m2 h2 H2 ∧ Mv m1 h1.nx H1 m2 h2.nx H2 ∧ RW B.G m2 h2.nx H2 dw d ∧ Out B.G B.cl (RW B.G) (fun c d H' => B.W c d σ H') m2 h2 H2 (match dw with
      | .ref n => (loopC g ft (body n) src (wipeR ρ (own.map (·.2))) 1000000 0 h2).bind fun _ h3 => .ok (.ref n) h3
      | _ => .no) Q := Out.bind r1 o1
  obtain ⟨dw, m2, h2, r2, v2, q2, o2⟩ := al_okA r1 k1 (fun p => c.ro p) D hD
  rw [hw]
  cases dw with
  | ref n =>
    obtain ⟨eD, hn⟩ := rw_ref q2
    have eD : D = m2 n := V.ref.inj eD
    have o3 : Out B.G B.cl RU (fun c d H' => B.W c d σ H') m2 h2 _ (loopC g ft (body n) src (wipeR ρ (own.map (·.2))) 1000000 0 h2) fun _ H' => Q (.ref D) H' :=
      (Out.bind r2 o2).mono fun _ H3 ⟨_, m3, h3, r3, v3, _, o3⟩ => by
        have z := o3 m3 H3 (.ref (m3 n)) r3 Mv.refl (.ref n (Nat.lt_of_lt_of_le hn v3.le))
        rw [v3.old n hn, ← eD] at z
        exact z
    exact turns_ok hus ((s.mv r1 v1).mv r2 v2) hn eD.symm (its.mv r1 v2) o3
  | _ => exact o2.elim
theorem se_comp (hw : X.w = B.G.wo) (hc : X.calm = true) (hN : X.N.Nodup) (st : StkAt X L) (th : TakesH X L B.W) (hi : SI X B tg iter fi) (ok : BlkOk X.N X.env.scope scope own) (h0 : ∀ env, GensOk (⟨tg, iter, ifs, 0⟩ :: rest) env 0)
    (hg : ∀ Wk : XK, InBlk X scope L (fun c d _ H => Wk c d H) fun Y => SG Y (Bk B.G B.cf B.cl Wk) tg g us) (ht : ∀ Wk : XK, InBlk X scope L (fun c d _ H => Wk c d H) fun Y => STs Y (Bk B.G B.cf B.cl Wk) ifs ft)
    (hb : ∀ Wk : XK, InBlk X scope L (fun c d _ H => Wk c d H) fun Y => SBd Y B.G B.cf B.cl Wk c (⟨tg, iter, ifs, 0⟩ :: rest) scope pos 0 body vsI) (hus : ∀ i ∈ us, i ∈ own.map (·.2)) (hsub : ∀ i ∈ vsI, i ∈ own.map (·.2)) (hs : ∀ x, foldedSetIterable iter X.env x = pure x) :
    SE X B (c.ex (⟨tg, iter, ifs, 0⟩ :: rest) scope pos) (eComp c.ob fi g ft body (own.map (·.2))) := by
  refine ⟨fun pins s σ H Q I i0 => ?_⟩
  have e : eval (c.ex (⟨tg, iter, ifs, 0⟩ :: rest) scope pos) X.env = comprehension (c.ex (⟨tg, iter, ifs, 0⟩ :: rest) scope pos) scope X.env (firstIterPos (⟨tg, iter, ifs, 0⟩ :: rest) pos) c.new false (eval iter X.env) := by cases c <;> rfl
  rw [e]
  refine comp_core hc hN I hi ok st th hs h0 (hg fun c d H' => B.W c d σ H') (ht fun c d H' => B.W c d σ H') (fun s H C cl fp t1 t2 t3 t4 D => hb (fun c d H' => B.W c d σ H') s H C cl fp t1 t2 t3 t4 D) hsub (comp_ok (X := X) hw hus i0) fun D ce s' m H' I' q hn f => ⟨m, hn, fun h'' sb => ?_⟩
  obtain ⟨f0, f1, f2, f3, f4, f5⟩ := f
  exact ⟨.ref D, H', I'.turned (t' := s'.toks) (fun b o hb e => (sb.2 b hb).trans e) f0 f1 f3 f4 f5, rfl, q⟩
end
end EV
namespace EV
open PySem PySem.Spec PyProof.Rows L2
def GO (env : Env) : List Comprehension → Prop
  | [] => True
  | g :: gs => (g.is_async = 0 ∧ ∀ x, foldedSetIterable g.iter env x = pure x) ∧ GO env gs
theorem go_get {env : Env} : ∀ {l : List Comprehension} {j : Nat} {g : Comprehension}, GO env l → l[j]? = some g → g.is_async = 0 ∧ ∀ x, foldedSetIterable g.iter env x = pure x
  | [], _, _, _, e => by simp at e
  | a :: l, 0, g, x, e => by
    have e : some a = some g := e
    cases e
    exact x.1
  | a :: l, j + 1, g, x, e => go_get (l := l) (j := j) x.2 e
theorem go {gens : List Comprehension} {env : Env} {j : Nat} (h : GO env (gens.drop (j + 1))) : GensOk gens env j := fun g e => go_get (j := 0) h (by rw [List.getElem?_drop]; exact e)
section
variable {X : Cx} {B : Bx} {c : CK} {rest : List Comprehension} {scope : Scope} {pos spos py : Pos} {tg iter : Expr} {ifs : List Expr} {fi : FI} {g : FG} {ft : FT} {body : FB} {us vsI : List Nat} {own : List (Str × Nat)} {L : Addr} {i : Nat} {y : Str}
theorem se_compL {e : Expr} (hw : X.w = B.G.wo) (hc : X.calm = true) (hN : X.N.Nodup) (st : StkAt X L) (th : TakesH X L B.W) (hi : SI X B tg iter fi) (ok : BlkOk X.N X.env.scope scope own) (h0 : ∀ env, GO env rest)
    (hg : ∀ Wk : XK, InBlk X scope L (fun c d _ H => Wk c d H) fun Y => SG Y (Bk B.G B.cf B.cl Wk) tg g us) (ht : ∀ Wk : XK, InBlk X scope L (fun c d _ H => Wk c d H) fun Y => STs Y (Bk B.G B.cf B.cl Wk) ifs ft)
    (hb : ∀ Wk : XK, InBlk X scope L (fun c d _ H => Wk c d H) fun Y => SBd Y B.G B.cf B.cl Wk (.lst e) (⟨tg, iter, ifs, 0⟩ :: rest) scope pos 0 body vsI) (hus : ∀ i ∈ us, i ∈ own.map (·.2)) (hsub : ∀ i ∈ vsI, i ∈ own.map (·.2)) (hs : ∀ x, foldedSetIterable iter X.env x = pure x) :
    SE X B (.ListComp e (⟨tg, iter, ifs, 0⟩ :: rest) scope pos) (eComp (.lst []) fi g ft body (own.map (·.2))) := se_comp (c := .lst e) hw hc hN st th hi ok (fun env => go (h0 env)) hg ht hb hus hsub hs
end
end EV
namespace EV
open PySem PySem.Spec PyProof.Rows L2
end EV
namespace EV
open PySem PySem.Spec PyProof.Rows L2
def BindsE (fd : FuncData) (ps : List Str) : Prop := ∀ us : List Value, us.length = ps.length → bindArgs fd ⟨us, []⟩ = pure (ps.zip us)
structure At (K : PySem.W.Frag) (mg : Str → Option Value) (n : Str) (st : Stmt) (ps : List Str) : Prop where
  ex : ∃ f fd, Fun K n n st f fd ∧ mg n = some (.ref f) ∧ BindsE fd ps
structure AtC (K : PySem.W.Frag) (mg : Str → Option Value) (n : Str) (st : Stmt) (ps : List Str) (c Pt : Addr) : Prop where
  ex : ∃ f fd, FunC K n n st f fd c ∧ PySem.W.keepIn K (.ref f) = true ∧ mg n = some (.ref f) ∧ BindsE fd ps
  tab : PySem.W.tabIn K n = some (c, Pt)
  no : K.lookup Pt = none
section
variable {P : Program} {w : World} {K : PySem.W.Frag} {mg : Str → Option Value} {base h : Heap} {G : GC} {cl : Cls} {n : Str} {st : Stmt} {ps ks : List Str} {k n0 : Nat} {π : List Nat} {g : List W → Hpe → Res W} {c Pt : Addr}
theorem at_mk {f : Addr} {oc kV doc pm cdv ct : Value} {od an : Option Addr} {osl : Array (Option Value)} (X : K.In h) (N : h.Ns mainGlobals mg) (a : PySem.W.nsIn K mainGlobals n = some (some (.ref f)))
    (l : K.lookup f = some ⟨oc, od, .func (PySem.W.fnOf n n (defArgs st) (defBody st) (defScope st) .none kV doc pm an cdv ct), osl⟩) (hc : PySem.W.codeIn K cdv n = true) (kp : PySem.W.keepIn K (.ref f) = true)
    (hb : ∀ (kV doc pm : Value) (an : Option Addr) (cdv ct : Value) (us : List Value), us.length = ps.length → bindArgs (PySem.W.fnOf n n (defArgs st) (defBody st) (defScope st) .none kV doc pm an cdv ct) ⟨us, []⟩ = pure (ps.zip us)) : At K mg n st ps :=
  ⟨f, _, fun_mk l hc kp, PySem.W.mg_of X N a, fun us hl => hb kV doc pm an cdv ct us hl⟩
theorem atC_mk {f : Addr} {oc kV doc pm ct oc2 : Value} {od an od2 : Option Addr} {osl osl2 : Array (Option Value)} {vs : Array Value} (X : K.In h) (N : h.Ns mainGlobals mg) (a : PySem.W.nsIn K mainGlobals n = some (some (.ref f)))
    (l : K.lookup f = some ⟨oc, od, .func (PySem.W.fnOf n n (defArgs st) (defBody st) (defScope st) .none kV doc pm an (.ref c) ct), osl⟩) (hc : PySem.W.codeIn K (.ref c) n = true) (kp : PySem.W.keepIn K (.ref f) = true)
    (l2 : K.lookup c = some ⟨oc2, od2, .fields vs, osl2⟩) (e2 : vs[11]? = some (.ref Pt)) (tab : PySem.W.tabIn K n = some (c, Pt)) (no : (K.lookup Pt).isNone = true)
    (hb : ∀ (kV doc pm : Value) (an : Option Addr) (cdv ct : Value) (us : List Value), us.length = ps.length → bindArgs (PySem.W.fnOf n n (defArgs st) (defBody st) (defScope st) .none kV doc pm an cdv ct) ⟨us, []⟩ = pure (ps.zip us)) : AtC K mg n st ps c Pt :=
  ⟨⟨f, _, ⟨⟨oc, od, kV, doc, pm, an, ct, osl, rfl, l, hc⟩⟩, kp, PySem.W.mg_of X N a, fun us hl => hb kV doc pm an (.ref c) ct us hl⟩, tab, Option.isNone_iff_eq_none.mp no⟩
theorem AtC.at (A : AtC K mg n st ps c Pt) : At K mg n st ps := by
  obtain ⟨f, fd, F, kp, m, b⟩ := A.ex
  obtain ⟨oc, od, kV, doc, pm, an, ct, osl, e, l, hc⟩ := F.ex
  subst e
  exact ⟨f, _, fun_mk l hc kp, m, b⟩
theorem no_ok {f : Addr} {fd : FuncData} : FnE P w K mg base k f fd ps G cl fun _ _ => .no :=
  ⟨fun A outer s H args us vs Q E _ _ _ _ ⟨m, h, ws, _, _, _, o⟩ => o.elim⟩
theorem At.dfe (A : At K mg n st ps) (ok : ∀ f fd, Fun K n n st f fd → FnE P w K mg base k f fd ps G cl g) : DfE P w K mg base G cl n ps k g := by
  obtain ⟨f, fd, F, m, b⟩ := A.ex
  exact ⟨f, fd, ok f fd F, m, F.kp, .all b⟩
theorem AtC.dfe (A : AtC K mg n st ps c Pt) (ok : ∀ f fd, FunC K n n st f fd c → FnE P w K mg base k f fd ps G cl g) : DfE P w K mg base G cl n ps k g := by
  obtain ⟨f, fd, F, kp, m, b⟩ := A.ex
  exact ⟨f, fd, ok f fd F, m, kp, .all b⟩
end
end EV
namespace EV
open PySem PySem.Spec PyProof.Rows L2
def clOf (Cs : List Addr) : Cls := fun k => (Cs[k]?).map Value.ref
section
variable {P : Program} {w : World} {K : PySem.W.Frag} {mg : Str → Option Value} {base h : Heap} {Cs : List Addr} {C : Addr} {k : Nat} {x f : Str}
end
mutual
inductive KonV (K : PySem.W.Frag) : W → Value → Prop
  | non : KonV K .non .none
  | bl (b : Bool) : KonV K (.bl b) (.bool b)
  | int (i : Int) (t : Tok) : KonV K (.int i) (.int i t)
  | str (s : Str) (t : Tok) : KonV K (.str s) (.str s t)
  | tup {a : Addr} {o : Obj} {its : Array Value} {n : Nat} {ws : List W} : K.lookup a = some o → o.cls = .type "tuple" → o.data = .seq its n → its.size ≤ sizeLine → KonVs K ws its.toList → KonV K (.tup ws) (.ref a)
inductive KonVs (K : PySem.W.Frag) : List W → List Value → Prop
  | nil : KonVs K [] []
  | cons {w : W} {u : Value} {ws : List W} {us : List Value} : KonV K w u → KonVs K ws us → KonVs K (w :: ws) (u :: us)
end
def noLst (K : PySem.W.Frag) : Bool := K.all fun p => !(p.2.cls == .type "list")
theorem noLst_at {a : Addr} {o : Obj} : ∀ {K : PySem.W.Frag}, noLst K = true → K.lookup a = some o → o.cls ≠ .type "list"
  | [], _, e => by cases e
  | (b, u) :: K, h, e => fun z => by
    unfold noLst at h
    rw [List.all_cons, Bool.and_eq_true] at h
    rw [List.lookup_cons] at e
    cases q : a == b with
    | true =>
      rw [q] at e
      have e : some u = some o := e
      cases e
      rw [z] at h
      exact absurd h.1 (by decide)
    | false =>
      rw [q] at e
      exact noLst_at (K := K) h.2 e z
theorem ints_rws {G : GC} {m : Nat → Addr} {n : Nat} {H : Hp} : ∀ ns : List Int, RWs G m n H (ns.map W.int) (ns.map V.int)
  | [] => .nil
  | i :: ns => .cons (.int i) (ints_rws ns)
abbrev gcOf (K : PySem.W.Frag) (dfs : Nat → Option Addr) (cs ls : List (Addr × Addr)) (P : Program) (w : World) (nm : Nat → Nat → Str) (tx : Nat → Option CTx) (cc : Nat → Option Addr) : GC := ⟨K, dfs, cs.map (·.2), P, w, ls.map (·.2), nm, tx, cc⟩
def Says (g : List W → Hpe → Res W) : Prop := ∀ ns : List Int, ns.length ≤ 63 → ∀ o : Ob, o = .lst (ns.map W.int) ∨ o = .fz (ns.map W.int) → ∃ h', g [.ref 0] (Hpe.nil.new o) = .ok (.bl true) h'
theorem says_ok {K : PySem.W.Frag} {P : Program} {w : World} {cl : Cls} {dfs : Nat → Option Addr} {H : Hp} {a : Addr} {cs ls : List (Addr × Addr)} {nm : Nat → Nat → Str} {tx : Nat → Option CTx} {cc : Nat → Option Addr} {ns : List Int} {g : List W → Hpe → Res W} (hg : Says g) (nl : noLst K = true) (hT : ∀ p ∈ cs ++ ls, H p.2 = some (.tbl #[])) (hl : ns.length ≤ 63) (hS : SqL K H a (ns.map V.int)) :
    spE (gcOf K dfs cs ls P w nm tx cc) cl 1 g [.ref a] H (fun v _ => v = .bl true) fun _ _ _ => False := by
  obtain ⟨o, ho, eo, hH, ro⟩ : ∃ (o : Ob) (ho : HO), (o = .lst (ns.map W.int) ∨ o = .fz (ns.map W.int)) ∧ H a = some ho ∧ RO (gcOf K dfs cs ls P w nm tx cc) (fun _ => a) 1 H a o ho := by
    rcases hS with (q | ⟨ob, q⟩) | ⟨ob, its, n, l, c, _⟩
    · exact ⟨_, _, .inl rfl, q, .lst (ints_rws ns)⟩
    · exact ⟨_, _, .inr rfl, q, .fz (ints_rws ns)⟩
    · exact absurd c (noLst_at nl l)
  obtain ⟨h', eg⟩ := hg ns hl o eo
  refine ⟨fun _ => a, Hpe.nil.new o, [.ref 0], ⟨show 1 ≤ 1099511627776 from by decide, fun i j hi hj _ => ?_, fun i hi => ?_, fun q hq => ?_, fun q hq => ?_⟩, .cons (.ref 0 (show 0 < 1 from by decide)) .nil, rfl, ?_⟩
  · have hi : i < 1 := hi
    have hj : j < 1 := hj
    omega
  · have hi : i < 1 := hi
    obtain rfl : i = 0 := by omega
    exact ⟨o, ho, rfl, hH, ro⟩
  · obtain ⟨p, hp, rfl⟩ := List.mem_map.mp hq
    exact ⟨#[], hT p (List.mem_append_left _ hp), trivial⟩
  · obtain ⟨p, hp, rfl⟩ := List.mem_map.mp hq
    refine ⟨#[], hT p (List.mem_append_right _ hp), trivial, fun pos cv hc => ?_⟩
    have z : codeAmong pos [] = some cv := hc
    simp [codeAmong] at z
  · rw [eg]
    intro m' H' v rh mv r
    cases r
    rfl
end EV
namespace EV
open PySem PySem.Spec PyProof.Rows L2
def TabsOf (K : PySem.W.Frag) : List Str → List (Addr × Addr) → Prop
  | [], [] => True
  | x :: xs, p :: ps => (PySem.W.tabIn K x = some p ∧ K.lookup p.2 = none) ∧ TabsOf K xs ps
  | _, _ => False
theorem tabsOf_at {K : PySem.W.Frag} {p : Addr × Addr} : ∀ {xs : List Str} {ps : List (Addr × Addr)}, TabsOf K xs ps → p ∈ ps → ∃ x ∈ xs, PySem.W.tabIn K x = some p ∧ K.lookup p.2 = none
  | [], [], _, h => nomatch h
  | [], _ :: _, t, _ => t.elim
  | _ :: _, [], t, _ => t.elim
  | x :: xs, q :: ps, t, h => by
    rcases List.mem_cons.mp h with e | h
    · subst e
      exact ⟨x, List.mem_cons_self .., t.1⟩
    · obtain ⟨y, hy, z⟩ := tabsOf_at t.2 h
      exact ⟨y, List.mem_cons_of_mem _ hy, z⟩
def LawE (P : Program) (w : World) (K : PySem.W.Frag) (mg : Str → Option Value) (x : Str) (dfs : Nat → Option Addr) (cs ls : List (Addr × Addr)) (nm : Nat → Nat → Str) (tx : Nat → Option CTx) (cc : Nat → Option Addr) (cl : Cls) (g : List W → Hpe → Res W) (fa : Addr) : Prop :=
  ∃ fd, BindsE fd [x] ∧ ∀ base : Heap, K.In base → base.Ns mainGlobals mg → (∀ p ∈ cs ++ ls, GxR.TabB base mg p.1 p.2) → FnE P w K mg base 230 fa fd [x] (gcOf K dfs cs ls P w nm tx cc) cl g
section
variable {P : Program} {w : World} {K : PySem.W.Frag} {mg : Str → Option Value} {n x : Str} {st : Stmt} {dfs : Nat → Option Addr} {cs ls : List (Addr × Addr)} {nm : Nat → Nat → Str} {tx : Nat → Option CTx} {cc : Nat → Option Addr} {cl : Cls} {g : List W → Hpe → Res W} {fa c Pt : Addr}
theorem At.law (A : At K mg n st [x]) (hfa : mg n = some (.ref fa)) (ok : ∀ base : Heap, K.In base → base.Ns mainGlobals mg → (∀ p ∈ cs ++ ls, GxR.TabB base mg p.1 p.2) → ∀ f fd, Fun K n n st f fd → FnE P w K mg base 230 f fd [x] (gcOf K dfs cs ls P w nm tx cc) cl g) :
    LawE P w K mg x dfs cs ls nm tx cc cl g fa := by
  obtain ⟨f, fd, F, m, b⟩ := A.ex
  have e := hfa.symm.trans m
  cases e
  exact ⟨fd, b, fun base kb nb tb => ok base kb nb tb _ fd F⟩
theorem AtC.law (A : AtC K mg n st [x] c Pt) (hfa : mg n = some (.ref fa)) (ok : ∀ base : Heap, K.In base → base.Ns mainGlobals mg → (∀ p ∈ cs ++ ls, GxR.TabB base mg p.1 p.2) → ∀ f fd, FunC K n n st f fd c → FnE P w K mg base 230 f fd [x] (gcOf K dfs cs ls P w nm tx cc) cl g) :
    LawE P w K mg x dfs cs ls nm tx cc cl g fa := by
  obtain ⟨f, fd, F, kp, m, b⟩ := A.ex
  have e := hfa.symm.trans m
  cases e
  exact ⟨fd, b, fun base kb nb tb => ok base kb nb tb _ fd F⟩
end
theorem walk_E {l : PySem.W.OpenLaw} {q : Program} {loose : List Str} {XP : (Str → Option Value) → Heap → Prop} {YP : World → Heap → Prop} {d : DefRec} {K : Params → PySem.W.Frag} {x : Str} {names : List Str} {g : List W → Hpe → Res W}
    (hm : l.most = some 63) (hd0 : d.params.defaults = []) (hYK : ∀ (w : World) (h : Heap), YP w h → (K w.params).In h) (hq : (names.all fun y => ((recsOf q).find? fun e => e.name == y).isSome) = true) (nl : ∀ w : World, noLst (K w.params) = true) (hg : Says g)
    (F : ∀ (w : World) (mg : Str → Option Value) (fa : Addr) (h : Heap), (K w.params).In h → h.Ns mainGlobals mg → mg d.name = some (.ref fa) → ∃ (dfs : Nat → Option Addr) (cs ls : List (Addr × Addr)) (nm : Nat → Nat → Str) (tx : Nat → Option CTx) (cc : Nat → Option Addr) (cl : Cls), TabsOf (K w.params) names (cs ++ ls) ∧ LawE l.prog w (K w.params) mg x dfs cs ls nm tx cc cl g fa) :
    PySem.W.WalkO q loose XP YP l.row.toRowW d [] (fun f vs => PySem.call f vs) := by
  refine Att.attach_callB hm hd0 fun w s0 s1 mg mb fa ob pm cd doc a vs ns Gr Yh hob hfd hcd hmg hls his hln hbt hgn => ?_
  have KH := hYK w _ Yh
  obtain ⟨dfs, cs, ls, nm, tx, cc, cl, tabs, fd, hbind, ok⟩ := F w mg fa _ KH Gr.T.g hmg
  have each : ∀ p ∈ cs ++ ls, (PySem.W.CodeHd s1.heap p.1 p.2 ∧ s1.heap.get? p.2 = some (PySem.W.tabObj #[])) ∧ (K w.params).lookup p.2 = none := fun p hp => by
    obtain ⟨y, hy, t1, t2⟩ := tabsOf_at tabs hp
    obtain ⟨r, hr⟩ := Option.isSome_iff_exists.mp (List.all_eq_true.mp hq y hy)
    exact ⟨PySem.W.tab_of Gr.T KH hr t1, t2⟩
  refine LamX.law_callTs (cs := cs ++ ls) (x := x) (k := 230) (CX := L2.CX l.prog w) KH Gr.T.g Gr.T.b Gr.T.builtins Gr.T.nolimit hgn (fun p hp => (each p hp).1.2) (fun p hp => (each p hp).2) (fun p hp => (each p hp).1.1) Gr.T.bmain hls his
    (Nat.le_trans hln (by decide)) ⟨by decide, by decide, by decide⟩ (fun base kb nb tb => (ok base kb nb fun p hp => ⟨(tb p hp).code, (tb p hp).bm, (tb p hp).gP⟩).ok) (fun s u => .of_eq (hbind [u] rfl)) (fun H hH hS => says_ok hg (nl w) hH hln hS) fun H e s' hx => ?_
  obtain ⟨_, _, _, _, _, _, _, _, _, _, _, _, z⟩ := hx
  exact z
end EV
namespace EV
open PySem PySem.Spec PyProof.Rows L2
end EV
namespace EV
end EV
namespace EV
open PySem PySem.Spec PyProof.Rows L2
theorem among_more {pos : Pos} {v : Value} (l more : List Value) (h : TriplesOk l) (hc : codeAmong pos l = some v) : codeAmong pos (l ++ more) = some v := by
  fun_induction TriplesOk l with
  | case1 => simp [codeAmong] at hc
  | case2 a t b u x rest ih =>
    simp only [List.cons_append, codeAmong] at hc ⊢
    split at hc
    · rename_i q; rw [if_pos q]; exact hc
    · rename_i q; rw [if_neg q]; exact ih h hc
  | case3 l h1 h2 => exact h.elim
theorem among_new {pos : Pos} {c : Value} (l : List Value) (h : TriplesOk l) (hc : codeAmong pos l = none) : codeAmong pos (l ++ [rawInt pos.line, rawInt pos.col, c]) = some c := by
  fun_induction TriplesOk l with
  | case1 => simp [rawInt, codeAmong]
  | case2 a t b u x rest ih =>
    simp only [List.cons_append, codeAmong] at hc ⊢
    split at hc
    · cases hc
    · rename_i q; rw [if_neg q]; exact ih h hc
  | case3 l h1 h2 => exact h.elim
section
variable {X : Cx} {B : Bx} {G : GC} {pins : List (Addr × Obj)} {σ : L2.St} {H : Hp} {s : Shared} {m : Nat → Addr} {h : Hpe}
theorem nofr_of (I : Inv X pins σ H s) {b : Addr} {o : Obj} (e : X.s_0.heap.get? b = some o) (nf : b ∉ X.fs) : b ∉ frs X.stack := fun z => by
  rcases List.mem_cons.mp (I.stkSub _ z) with q | q
  · have h1 := I.ok.above
    rw [← q] at h1
    exact Nat.lt_irrefl _ (Nat.lt_of_lt_of_le (Heap.lt_size e) h1)
  · exact nf q
theorem cl_later (I : Inv X pins σ H s) (hex : X.ex = []) {t : CTx} {f : Addr} {vs : List V} (rh : RH G m h H) (c : ClAt G t X.s_0 X.H_0 X.fs f vs) : ClAt G t s H (frs X.stack) f vs := by
  obtain ⟨cl, cd, o, fd, P, pos, ps, e1, e2, e3, e4, e5, e6, e7, e8, e9, e10, e11⟩ := c
  have nx : ∀ b : Addr, b ∉ X.ex := fun b z => by rw [hex] at z; cases z
  obtain ⟨more, em⟩ := I.base.tbls P ps e7
  obtain ⟨qs, eq, tr, _⟩ := rh.ltab P e6
  refine ⟨cl, cd, o, fd, P, pos, ps ++ more, I.base.keep f o e1 e2 e3 (nx f), I.base.free f o e1 e2 (nx f), nofr_of I e1 e3, e4, e5, e6, em, ?_, e9, e10.later e11 (fun y a _ => nx a) I, fun y a e => ?_⟩
  · rw [Array.toList_append]
    exact among_app_l _ _ e8
  · obtain ⟨_, v, oc, ho, _⟩ := e10.all y a e
    exact nofr_of I ho (e11 y a e)
where
  among_app_l {pos : Pos} {v : Value} : ∀ (l more : List Value), codeAmong pos l = some v → codeAmong pos (l ++ more) = some v
    | l, more, hc => by
      fun_induction codeAmong pos l with
      | case1 line t col u c rest q => simp only [List.cons_append, codeAmong]; rw [if_pos q]; exact hc
      | case2 line t col u c rest q ih => simp only [List.cons_append, codeAmong]; rw [if_neg q]; exact ih hc
      | case3 l hn => cases hc
theorem cf_later (I : Inv X pins σ H s) (hex : X.ex = []) (rh : RH G m h H) : ∀ k f vs, CfAt G X.s_0 X.H_0 X.fs k f vs → CfAt G s H (frs X.stack) k f vs :=
  fun k f vs ⟨t, e, c⟩ => ⟨t, e, cl_later I hex rh c⟩
end
structure ClE (P : Program) (w : World) (K : PySem.W.Frag) (mg : Str → Option Value) (base : Heap) (G : GC) (cl : Cls) (lv : Nat) (t : CTx) (g : List W → Hpe → Res W) : Prop where
  run : ∀ (A : Around) (outer : List PySem.Env) (s : Shared) (H : Hp) (f : Addr) (us : List Value) (vs vs' : List V) (Q : VK) (E : XK), Room lv A → Env0 P w K mg base A outer s H → ClAt G t s H (frs outer) f vs' → Vals vs us →
    (∃ m h ws caps, RH G m h H ∧ RCs G (CfAt G s H (frs outer)) m h.nx H ws vs ∧ RCs G (CfAt G s H (frs outer)) m h.nx H caps vs' ∧ ws.length = t.ps.length ∧ Out G cl (RW G) (fun c d H' => E c d H') m h H (g (ws ++ caps) h) Q) →
    codeAny (model P w) A (.call (.ref f) ⟨us, []⟩) (CR (L2.CX P w) outer P w H s Q E) s
abbrev nfOf (t : CTx) (cl : List (Str × Addr)) (c : Addr) : NdefX.NF := ⟨"", t.qual, ⟨[], [], none, [], [], none, []⟩, [], t.scope, cl, c⟩
section
variable {P : Program} {w : World} {K : PySem.W.Frag} {mg : Str → Option Value} {base : Heap} {G : GC} {cl : Cls} {k : Nat} {t : CTx} {N : List Str} {fe : FE} {fs : FS} {body : Expr} {sts : List Stmt}
theorem runB_rt {n : Nat} {ws : List W} {h : Hpe} : runB n (sRt fe) ws h = fe (ws.map some ++ List.replicate (n - ws.length) none) h := by
  unfold runB sRt bindS
  cases e : fe (ws.map some ++ List.replicate (n - ws.length) none) h <;> rfl
theorem startF_eq {vs vs' : List V} : NdefX.startF N vs (vs'.map some) = (vs ++ vs').map some ++ List.replicate (N.length - (vs ++ vs').length) none := by
  unfold NdefX.startF
  simp [List.append_assoc, Nat.sub_sub]
theorem cl_start {A : Around} {outer : List PySem.Env} {s : Shared} {H : Hp} {us : List Value} {vs vs' : List V} {E : XK} {f c : Addr} {cls : List (Str × Addr)} {h₁ : Heap} {tk : Nat} (S : NdefX.NScope N t.ps t.fr t.scope) (hd : A.handled = none) (e0 : Env0 P w K mg base A outer s H) (hl : vs.length = t.ps.length) (r : Vals vs us) (C : NdefX.CellsAt cls t.fr (vs'.map some) s.heap H)
    (hns : h₁.Ns s.heap.objs.size fun y => (t.ps.zip us).reverse.lookup y) (kp : ∀ b o, s.heap.get? b = some o → h₁.get? b = some o) :
    Inv (NdefX.ncx (L2.CX P w) P w K mg base N (nfOf t cls c) f A outer s H E) [] ((vs ++ vs').map some ++ List.replicate (N.length - (vs ++ vs').length) none) H { s with heap := h₁, toks := tk } := by
  rw [← startF_eq]
  exact NdefX.inv_startN (F := nfOf t cls c) S hd e0 hl r C hns kp
theorem code_of {s : Shared} {H : Hp} {m : Nat → Addr} {h : Hpe} {Pt c : Addr} {pos : Pos} {ps : Array Value} {q : Str} (hok : HOk P w H s.heap) (rh : RH G m h H) (hP : Pt ∈ G.ltabs) (e : H Pt = some (.tbl ps)) (hc : codeAmong pos ps.toList = some (.ref c)) (hq : G.nm pos.line pos.col = q) : s.heap.CodeRec (.ref c) q := by
  obtain ⟨qs, eq, _, hh⟩ := rh.ltab Pt hP
  rw [e] at eq; cases eq
  obtain ⟨c', e1, e2, _⟩ := hh pos _ hc
  cases e1
  rw [hq] at e2
  exact NdefX.codeO_at hok e2
theorem ok_CE (hb : t.body = .expr body) (S : NdefX.NScope N t.ps t.fr t.scope)
    (hbody : ∀ (cls : List (Str × Addr)) (c f : Addr) (A : Around) (outer : List PySem.Env) (s : Shared) (H : Hp) (E : XK), Room k (A.deeper (NdefX.envF (nfOf t cls c) f s.heap.objs.size)) →
      SE (NdefX.ncx (L2.CX P w) P w K mg base N (nfOf t cls c) f A outer s H E) ⟨G, cl, fun c d _ H' => E c d H', CfAt G s H (frs outer)⟩ body fe) : ClE P w K mg base G cl (k + 1) t (runB N.length (sRt fe)) := by
  refine ⟨fun A outer s H f us vs vs' Q E hr e0 C r ⟨m, h, ws, caps, rh, rs, rc, hl, o⟩ => ?_⟩
  obtain ⟨cls, c, ob, fd, Pt, pos, ps, e1, e2, e3, e4, e5, e6, e7, e8, e9, e10, e11⟩ := C
  obtain ⟨nm, qn, prm, bd, scp, gl, clo, df, kdf, dc, pm, an, cd, ct, bi⟩ := fd
  obtain ⟨q1, q2, q3, q4, q5, q6, q7, q8⟩ := e5
  dsimp only at q1 q2 q3 q4 q5 q6 q7
  subst q1 q2 q3 q4 q6 q7
  rw [hb] at q5
  subst q5
  have hlv : vs.length = t.ps.length := by rw [← rs.len, hl]
  have lim : s.heap.NoLimit := e0.mod.nolimit.keeps fun b o e => (e0.bs b o e).1
  refine PySem.W.kla_callFunE hr.depth e1 e4 S.co S.gen rfl (code_of e0.hok rh e6 e7 e8 e9) ?_
  rw [q8 us (by rw [← r.length]; exact hlv)]
  refine wpAny_pure (wpAny_newFunctionEnv S.nocell (fun ⟨n, _⟩ hy => S.par n (List.of_mem_zip hy).1) (fun h₁ hns hsb => ⟨lim.fresh _ hsb, ?_⟩) S.kind)
  have kp : ∀ b o, s.heap.get? b = some o → h₁.get? b = some o := fun b o e => hsb.extBut b o (Nat.ne_of_lt (Heap.lt_size e)) (Heap.get?_push_of_some _ e)
  show codeAny _ _ (.expr body (NdefX.envF (nfOf t _ c) f s.heap.objs.size)) _ _
  have J := cl_start (E := E) (f := f) (c := c) (tk := s.toks + (t.ps.zip us).length) S hr.hd e0 hlv r e10 hns kp
  have ht : tE G (CfAt G s H (frs outer)) cl (fun c d _ H' => E c d H') fe ((vs ++ vs').map some ++ List.replicate (N.length - (vs ++ vs').length) none) H Q :=
    ⟨m, h, _, ss_start rh (rs.app rc) N.length, by rw [runB_rt] at o; exact o⟩
  refine PySem.W.kla_codeExpr (wpAny_mono ((hbody _ c f A outer s H E (hr.deeper _)).run [] _ _ H Q J ht) (fun v s' hq => ?_) fun e s' hq => hq)
  obtain ⟨w', H', J', rv, q⟩ := hq
  exact ⟨w', H', J'.os, J'.bare, J'.base, J'.hok, rv, q⟩
end
end EV
namespace EV
open PySem PySem.Spec PyProof.Rows L2
def arG (n : Nat) (g : List W → Hpe → Res W) (ws : List W) (h : Hpe) : Res W := bif Nat.beq ws.length n then g ws h else .no
structure DvE (P : Program) (w : World) (K : PySem.W.Frag) (mg : Str → Option Value) (base : Heap) (G : GC) (cl : Cls) (lv : Nat) (f : Addr) (g : List W → Hpe → Res W) : Prop where
  ex : ∃ fd ps g0, FnE P w K mg base lv f fd ps G cl g0 ∧ PySem.W.keepIn K (.ref f) = true ∧ Binds K fd ps [] ∧ ∀ ws h, g ws h = arG ps.length g0 ws h
structure Cal (P : Program) (w : World) (K : PySem.W.Frag) (mg : Str → Option Value) (base : Heap) (G : GC) (cl : Cls) (lv : Nat) (T : Nat → List W → Hpe → Res W) : Prop where
  df : ∀ k f, G.dfs k = some f → DvE P w K mg base G cl lv f (T k)
  clo : ∀ k t, G.tx k = some t → ∃ g, ClE P w K mg base G cl lv t g ∧ ∀ ws h, T k ws h = arG (t.ps.length + t.fr.length) g ws h
def eClV (i : Nat) (T : Nat → List W → Hpe → Res W) (fs : FA) : FE := fun ρ h => match ρ[i]? with
  | some (some (.df k)) => (fs ρ h).bind fun ws h1 => T k ws h1
  | some (some (.clo k caps)) => (fs ρ h).bind fun ws h1 => T k (ws ++ caps) h1
  | _ => .no
section
variable {X : Cx} {B : Bx} {k lv i : Nat} {T : Nat → List W → Hpe → Res W} {x : Str} {p pos : Pos} {e : Expr} {es : List Expr} {fs : FA}
theorem run_any {pins : List (Addr × Obj)} {σ : L2.St} {H : Hp} {s : Shared} {Q : VK} {f : Addr} {us : List Value} (tk : Takes X B.W) (I : Inv X pins σ H s)
    (rc : codeAny (model X.prog X.w) X.A (.call (.ref f) ⟨us, []⟩) (CR (L2.CX X.prog X.w) X.stack X.prog X.w H s Q (WE B.W σ)) s) : wpAny (model X.prog X.w) X.A (call (.ref f) us) (EP X pins σ Q) X.xe s := by
  refine wpAny_call (codeAny_mono rc fun r s' hq => ?_)
  cases r with
  | error e => exact passAt tk σ pins H s e s' I hq
  | ok fl =>
    cases fl with
    | ret u => exact I.after hq
    | next => exact False.elim hq
    | brk => exact False.elim hq
    | cont => exact False.elim hq
theorem se_callV (C : Cal X.prog X.w X.K X.mg X.base B.G B.cl lv T) (hcf : B.cf = CfAt B.G X.s_0 X.H_0 X.fs) (hex : X.ex = []) (tk : Takes X B.W) (hr : Room lv X.A) (hN : X.N[i]? = some x) (hv : Vis X.env.scope x) (ha : SA X B (e :: es) fs)
    (hdb : (x == ("__debug__" : Str)) = false) (hcd : (x == ("__classdict__" : Str)) = false) (he : starEach (e :: es) X.env = (false, eval e X.env) :: starEach es X.env) (hpl : (backTo pos (starEach es X.env)).any (·.1) = false) :
    SE X B (.Call (.Name x p) (e :: es) [] pos) (eClV i T fs) := by
  refine ⟨fun pins s σ H Q I ⟨m, h, ρ, ss, o⟩ => ?_⟩
  simp only [eClV] at o
  cases ei : ρ[i]? with
  | none => rw [ei] at o; exact o.elim
  | some ow =>
    cases ow with
    | none => rw [ei] at o; exact o.elim
    | some w =>
      rw [ei] at o
      obtain ⟨v, es1, rc⟩ := ss.sl i w ei
      cases w with
      | df kk =>
        have o : Out B.G B.cl (RW B.G) (fun c d H' => B.W c d σ H') m h H ((fs ρ h).bind fun ws h1 => T kk ws h1) Q := o
        obtain ⟨f, rfl, ef⟩ : ∃ f, v = .ref f ∧ B.G.dfs kk = some f := by
          cases rc with
          | rw r => cases r with
            | df e => exact ⟨_, rfl, e⟩
        obtain ⟨fd, ps, g0, F, hk, hb, hg⟩ := (C.df kk f ef).ex
        refine wpAny_Call_Name_kw (thn ((pe_var (pos := p) hN hv hdb hcd).run pins s σ H (fun v H1 => v = .ref f ∧ H1 = H) I ⟨.ref f, es1, rfl, rfl⟩) fun u s1 ⟨v, H1, I1, r1, q1⟩ => ?_)
        obtain ⟨rfl, rfl⟩ := q1
        cases r1
        refine PySem.W.callWith_K (h₀ := X.base) I.ok.mod.kin hk (thn (ha.run pos pins s1 σ _ _ I1 ⟨m, h, ρ, ss, Out.bind ss.rh o⟩) fun us s2 ⟨vs, H2, I2, r, ws, m2, h2, r2, v2, q2, o2⟩ => ⟨I2.kIn, ?_⟩) he hpl
        rw [hg] at o2
        unfold arG at o2
        cases c : Nat.beq ws.length ps.length with
        | false => rw [c] at o2; exact o2.elim
        | true =>
          rw [c] at o2
          have hl : us.length = ps.length := by rw [← r.length, ← q2.len]; exact beq_eq c
          have b := hb s2 us I2.kIn (by rw [List.append_nil]; exact hl)
          rw [List.append_nil] at b
          exact run_any tk I2 (F.run X.A X.stack s2 H2 ⟨us, []⟩ us vs Q _ hr I2.env0 b r ⟨m2, h2, ws, r2, .of q2, beq_eq c, o2⟩)
      | clo kk caps =>
        have o : Out B.G B.cl (RW B.G) (fun c d H' => B.W c d σ H') m h H ((fs ρ h).bind fun ws h1 => T kk (ws ++ caps) h1) Q := o
        obtain ⟨f, vs', rfl, ecf, rcs⟩ : ∃ f vs', v = .ref f ∧ B.cf kk f vs' ∧ RCs B.G B.cf m h.nx H caps vs' := by
          cases rc with
          | rw r => cases r
          | clo a b => exact ⟨_, _, rfl, a, b⟩
        have ecf' := ecf
        rw [hcf] at ecf'
        obtain ⟨t, et, ca⟩ := ecf'
        obtain ⟨g, CE, hg⟩ := C.clo kk t et
        have nx : ∀ b : Addr, b ∉ X.ex := fun b z => by rw [hex] at z; cases z
        have fat : ∀ {σ1 : L2.St} {H1 : Hp} {s1 : Shared}, Inv X pins σ1 H1 s1 → PySem.W.FnAt f s1.heap := fun I1 => by
          obtain ⟨cls, c, ob, fd, Pt, pos, ps, e1, e2, e3, e4, _⟩ := ca
          have q := I1.base.keep f ob e1 e2 e3 (nx f)
          obtain ⟨oc, od, osl, odd⟩ := ob
          dsimp only at e4
          subst e4
          exact ⟨_, _, _, _, q⟩
        refine wpAny_Call_Name_kw (thn ((pe_var (pos := p) hN hv hdb hcd).run pins s σ H (fun v H1 => v = .ref f ∧ H1 = H) I ⟨.ref f, es1, rfl, rfl⟩) fun u s1 ⟨v, H1, I1, r1, q1⟩ => ?_)
        obtain ⟨rfl, rfl⟩ := q1
        cases r1
        refine PySem.W.callWith_F (first := []) (fat I1) (thn (ha.run pos pins s1 σ _ _ I1 ⟨m, h, ρ, ss, Out.bind ss.rh o⟩) fun us s2 ⟨vs, H2, I2, r, ws, m2, h2, r2, v2, q2, o2⟩ => ⟨fat I2, ?_⟩) he hpl
        show wpAny _ _ (call (.ref f) us) _ _ _
        rw [hg] at o2
        unfold arG at o2
        cases c : Nat.beq (ws ++ caps).length (t.ps.length + t.fr.length) with
        | false => rw [c] at o2; exact o2.elim
        | true =>
          rw [c] at o2
          have hlc : caps.length = t.fr.length := by
            obtain ⟨cls, c, ob, fd, Pt, pos, ps, _, _, _, _, _, _, _, _, _, e10, _⟩ := ca
            have z := e10.len
            rw [List.length_map] at z
            rw [rcs.len, z]
          have hlw : ws.length = t.ps.length := by
            have z := beq_eq c
            rw [List.length_append] at z
            omega
          have lift := cf_later I2 hex r2
          rw [hcf] at rcs
          exact run_any tk I2 (CE.run X.A X.stack s2 H2 f us vs vs' Q _ hr I2.env0 (cl_later I2 hex r2 ca) r ⟨m2, h2, ws, caps, r2, .of q2, rcs.map v2.old v2.le (v2.tupk ss.rh) lift, hlw, o2⟩)
      | _ => exact o.elim
end
def Kt (G : GC) (H H' : Hp) : Prop := ∀ P ∈ G.ltabs, ∀ (pos : Pos) (ps : Array Value) (v : Value), H P = some (.tbl ps) → codeAmong pos ps.toList = some v → ∃ ps', H' P = some (.tbl ps') ∧ codeAmong pos ps'.toList = some v
theorem Kt.refl {G : GC} {H : Hp} : Kt G H H := fun _ _ _ ps _ e c => ⟨ps, e, c⟩
theorem Kt.trans {G : GC} {H H1 H2 : Hp} (a : Kt G H H1) (b : Kt G H1 H2) : Kt G H H2 := fun P hP pos ps v e c => by
  obtain ⟨ps', e', c'⟩ := a P hP pos ps v e c
  exact b P hP pos ps' v e' c'
section
variable {X : Cx} {G : GC} {pins : List (Addr × Obj)} {σ : L2.St} {H : Hp} {s : Shared} {m : Nat → Addr} {h : Hpe}
theorem lam_mk {c P : Addr} {params : Arguments} {body : Expr} {scope : Scope} {pos : Pos} {E : Value → Shared → Prop} {Q : Value → Shared → Prop} (I : Inv X pins σ H s) (rh : RH G m h H) (TB : GxR.TabB X.base X.mg c P) (hcode : X.env.code = .ref c)
    (hP : P ∈ G.ltabs) (hn : G.nm pos.line pos.col = X.env.qual ++ "<lambda>") (hdef : defaultsOf params X.env = ([], [])) (hfree : ∀ y ∈ scope.names, y.2 = .free → ∃ c, X.env.cells.lookup y.1 = some c)
    (hk : ∀ (f c' : Addr) (pm ctv : Value) (H1 : Hp) (s' : Shared), Inv X pins σ H1 s' → RH G m h H1 → Mv m h.nx H m h.nx H1 → Kt G H H1 →
      s'.heap.get? f = some (PySem.W.kla_obj "<lambda>" (X.env.qual ++ "<lambda>") params body scope (cloFrom X.env.cells scope.names []) pm c' ctv) → H1 f = none → f ∉ frs X.stack → f ≠ X.env.locals → (∃ ps, H1 P = some (.tbl ps) ∧ codeAmong pos ps.toList = some (.ref c')) → Q (.ref f) s') :
    wpAny (model X.prog X.w) X.A (eval (.Lambda params body scope pos) X.env) Q E s := by
  obtain ⟨ps, hPs, ht, ha⟩ := rh.ltab P hP
  refine PySem.W.kla_eval hdef ?_
  have bP : s.heap.BuiltinsAt X.mg P := TB.bm.keeps I.bk
  have hP' : s.heap.get? P = some { cls := .none, data := .fields ps } := I.hok P _ hPs
  have nofr : ∀ f, s.heap.objs.size ≤ f → f ∉ frs X.stack := fun f hf z => by
    rcases List.mem_cons.mp (I.stkSub _ z) with e | e
    · have h1 := I.lt
      rw [← e] at h1
      exact Nat.lt_irrefl _ (Nat.lt_of_lt_of_le h1 hf)
    · exact I.nofs hf e
  have nloc : ∀ f, s.heap.objs.size ≤ f → f ≠ X.env.locals := fun f hf e => by
    have h1 := I.lt
    rw [← e] at h1
    exact Nat.lt_irrefl _ (Nat.lt_of_lt_of_le h1 hf)
  cases hc : codeAmong pos ps.toList with
  | none =>
    refine PySem.W.kla_makeFunction (mg := X.mg) (c := c) (P := P) (ps := ps) (closure_ok hfree) I.ok.glob (I.mod.glob.keeps I.bk) hcode (TB.code.keeps I.bk) hP' ht hc TB.gP bP fun c' ctv h' tk hx hge hlt hrec htb => ?_
    obtain ⟨c2, oc, vs, t, e2, hoc, hd, hv⟩ := hrec
    cases e2
    have hsz : s.heap.objs.size ≤ h'.objs.size := Nat.le_trans hge (Nat.le_of_lt hlt)
    have nC : H c' = none := I.hok.fresh hge
    have I1 := LamX.inv_table (t' := tk) (more := #[rawInt pos.line, rawInt pos.col, .ref c']) (h' := h'.push (PySem.W.kla_obj "<lambda>" (X.env.qual ++ "<lambda>") params body scope (cloFrom X.env.cells scope.names []) ((X.mg "__name__").getD .none) c' ctv)) I hPs
      (fun b o hb e => Heap.get?_push_of_some _ (hx b o hb e)) (Heap.get?_push_of_some _ htb) hge ⟨oc, vs, t, Heap.get?_push_of_some _ hoc, hd, hv⟩
    have nPc : P ≠ c' := ne_of_none hPs nC
    have atP : upd (upd H P (.tbl (ps ++ #[rawInt pos.line, rawInt pos.col, .ref c']))) c' (LamX.CodeO c' (X.env.qual ++ "<lambda>")) P = some (.tbl (ps ++ #[rawInt pos.line, rawInt pos.col, .ref c'])) := by rw [upd_ne nPc, upd_same]
    have keep : ∀ b o, H b = some o → b ≠ P → upd (upd H P (.tbl (ps ++ #[rawInt pos.line, rawInt pos.col, .ref c']))) c' (LamX.CodeO c' (X.env.qual ++ "<lambda>")) b = some o := fun b o e n => by
      rw [upd_ne (ne_of_none e nC), upd_ne n]; exact e
    have eL : (ps ++ #[rawInt pos.line, rawInt pos.col, Value.ref c']).toList = ps.toList ++ [rawInt pos.line, rawInt pos.col, .ref c'] := by simp
    have tk2 : TupK H (upd (upd H P (.tbl (ps ++ #[rawInt pos.line, rawInt pos.col, .ref c']))) c' (LamX.CodeO c' (X.env.qual ++ "<lambda>"))) := fun a xs q => by
      rcases q with q | ⟨ob, q⟩
      · exact .inl (keep _ _ q fun z => by rw [z, hPs] at q; cases q)
      · exact .inr ⟨ob, keep _ _ q fun z => by rw [z, hPs] at q; cases q⟩
    have mP : ∀ i, i < h.nx → m i ≠ P := fun i hi z => by
      obtain ⟨o, ho, _, e, r⟩ := rh.obj i hi
      rw [z, hPs] at e; cases e
      exact r.notup.2.2 _ rfl
    have mC : ∀ i, i < h.nx → m i ≠ c' := fun i hi z => rh.ne_none hi (by rw [z]; exact nC)
    have kc : ∀ (pos' : Pos) (v : Value), codeAmong pos' ps.toList = some v → codeAmong pos' (ps ++ #[rawInt pos.line, rawInt pos.col, Value.ref c']).toList = some v := fun pos' v e => by
      rw [eL]; exact among_more _ _ ht e
    have R1 : RH G m h (upd (upd H P (.tbl (ps ++ #[rawInt pos.line, rawInt pos.col, .ref c']))) c' (LamX.CodeO c' (X.env.qual ++ "<lambda>"))) := by
      refine ⟨rh.sz, rh.inj, fun i hi => ?_, fun P' hP' => ?_, fun P' hP' => ?_⟩
      · obtain ⟨o, ho, e1, e2, r⟩ := rh.obj i hi
        exact ⟨o, ho, e1, keep _ _ e2 (mP i hi), r.mono (fun _ _ => rfl) (Nat.le_refl _) tk2⟩
      · obtain ⟨qs, e, t⟩ := rh.tab P' hP'
        by_cases cc : P' = P
        · subst cc; exact ⟨_, atP, by rw [eL]; exact PySem.TriplesOk_snoc _ _ _ _ ht⟩
        · exact ⟨qs, keep _ _ e cc, t⟩
      · by_cases cc : P' = P
        · subst cc
          refine ⟨_, atP, by rw [eL]; exact PySem.TriplesOk_snoc _ _ _ _ ht, fun pos' cv hcv => ?_⟩
          rw [eL] at hcv
          rcases NdefX.among_app2 _ ht hcv with z | ⟨z, z1, z2⟩
          · obtain ⟨c0, e1, e2, e3⟩ := ha pos' cv z
            exact ⟨c0, e1, keep _ _ e2 (fun zz => by rw [zz, hPs] at e2; unfold LamX.CodeO at e2; cases e2), e3⟩
          · refine ⟨c', z, ?_, mC⟩
            rw [← z1, ← z2, hn]
            exact upd_same
        · exact (rh.ltab P' hP').keep (fun qs e => keep _ _ e cc) fun b q e nb => ⟨keep _ _ e (fun zz => by rw [zz, hPs] at e; unfold LamX.CodeO at e; cases e), nb⟩
    have M1 : Mv m h.nx H m h.nx (upd (upd H P (.tbl (ps ++ #[rawInt pos.line, rawInt pos.col, .ref c']))) c' (LamX.CodeO c' (X.env.qual ++ "<lambda>"))) := by
      refine ⟨Nat.le_refl _, fun _ _ => rfl, fun i a b => absurd a (Nat.not_le_of_lt b), fun b o e _ => ?_, fun i hi ob u e => keep _ _ e (mP i hi)⟩
      by_cases cc : b = P
      · subst cc
        rw [hPs] at e; cases e
        exact .inr ⟨ps, _, rfl, atP⟩
      · exact .inl (keep _ _ e cc)
    refine hk h'.objs.size c' ((X.mg "__name__").getD .none) ctv _ _ I1 R1 M1 (fun P' hP' pos' qs v e cv => ?_) (Heap.get?_push_size _ rfl) ?_ (nofr _ hsz) (nloc _ hsz) ⟨_, atP, by rw [eL]; exact among_new _ ht hc⟩
    · by_cases cc : P' = P
      · subst cc
        rw [hPs] at e; cases e
        exact ⟨_, atP, kc _ _ cv⟩
      · exact ⟨qs, keep _ _ e cc, cv⟩
    · have n1 : h'.objs.size ≠ c' := Nat.ne_of_gt hlt
      have n2 : h'.objs.size ≠ P := Nat.ne_of_gt (Nat.lt_of_lt_of_le (Heap.lt_size hP') hsz)
      rw [upd_ne n1, upd_ne n2]
      exact I.hok.fresh hsz
  | some cv =>
    obtain ⟨c', e, hco, _⟩ := ha pos cv hc
    subst e
    refine PySem.W.kla_makeFunctionHit (mg := X.mg) (c := c) (P := P) (ps := ps) (closure_ok hfree) I.ok.glob (I.mod.glob.keeps I.bk) hcode (TB.code.keeps I.bk) hP' ht hc bP fun ctv h' tk hx hsz => ?_
    have I1 : Inv X pins σ H { s with heap := h'.push (PySem.W.kla_obj "<lambda>" (X.env.qual ++ "<lambda>") params body scope (cloFrom X.env.cells scope.names []) ((X.mg "__name__").getD .none) c' ctv), toks := tk } := I.kept fun b o e => Heap.get?_push_of_some _ (hx b o e)
    exact hk h'.objs.size c' ((X.mg "__name__").getD .none) ctv H _ I1 rh Mv.refl Kt.refl (Heap.get?_push_size _ rfl) (I.hok.fresh hsz) (nofr _ hsz) (nloc _ hsz) ⟨ps, hPs, hc⟩
end
end EV
namespace EV
open PySem PySem.Spec PyProof.Rows L2
structure CapsB (X : Cx) (t : CTx) (js : List Nat) : Prop where
  free : ∀ y ∈ t.scope.names, y.2 = .free → X.env.scope.names.lookup y.1 = some .cell ∨ X.env.scope.names.lookup y.1 = some .free
  fr : ∀ y ∈ t.fr, (y, NameKind.free) ∈ t.scope.names
  at_ : js.map (fun j => X.N[j]?) = t.fr.map some
mutual
inductive RM (X : Cx) (B : Bx) (σ : L2.St) (pins : List (Addr × Obj)) (m : Nat → Addr) (n : Nat) (H : Hp) : W → V → Prop
  | rc {w : W} {v : V} : RC B.G B.cf m n H w v → RM X B σ pins m n H w v
  | mk {k : Nat} {f c P : Addr} {caps : List W} {t : CTx} {o : Obj} {fd : FuncData} {pos : Pos} {ps : Array Value} {vs : List V} {js : List Nat} : B.G.tx k = some t → (f, o) ∈ pins → f ∉ frs X.stack → o.data = .func fd → FdOk fd t (cloFrom X.env.cells t.scope.names []) c → P ∈ B.G.ltabs → H P = some (.tbl ps) →
      codeAmong pos ps.toList = some (.ref c) → B.G.nm pos.line pos.col = t.qual → CapsB X t js → vs.map some = js.map (NdefX.slotAt σ) → RCs B.G B.cf m n H caps vs → RM X B σ pins m n H (.clo k caps) (.ref f)
inductive RMs (X : Cx) (B : Bx) (σ : L2.St) (pins : List (Addr × Obj)) (m : Nat → Addr) (n : Nat) (H : Hp) : List W → List V → Prop
  | nil : RMs X B σ pins m n H [] []
  | cons {w : W} {ws : List W} {v : V} {vs : List V} : RM X B σ pins m n H w v → RMs X B σ pins m n H ws vs → RMs X B σ pins m n H (w :: ws) (v :: vs)
end
section
variable {X : Cx} {B : Bx} {σ : L2.St} {pins pins' : List (Addr × Obj)} {m : Nat → Addr} {n : Nat} {H H' : Hp}
theorem RM.mono {w : W} {v : V} (r : RM X B σ pins m n H w v) (t : TupK H H') (kt : Kt B.G H H') (hp : ∀ p ∈ pins, p ∈ pins') : RM X B σ pins' m n H' w v := by
  cases r with
  | rc r => exact .rc (r.mono (fun _ _ => rfl) (Nat.le_refl _) t)
  | mk a b c d e f g i j k l q =>
    obtain ⟨ps', g', i'⟩ := kt _ f _ _ _ g i
    exact .mk a (hp _ b) c d e f g' i' j k l (q.map (fun _ _ => rfl) (Nat.le_refl _) t fun _ _ _ z => z)
theorem RMs.mono : ∀ {ws : List W} {vs : List V}, RMs X B σ pins m n H ws vs → TupK H H' → Kt B.G H H' → (∀ p ∈ pins, p ∈ pins') → RMs X B σ pins' m n H' ws vs
  | _, _, .nil, _, _, _ => .nil
  | _, _, .cons a b, t, kt, hp => .cons (a.mono t kt hp) (b.mono t kt hp)
theorem rm_later {h : Hpe} {s : Shared} (I : Inv X pins σ H s) (rh : RH B.G m h H) (hcf : B.cf = CfAt B.G X.s_0 X.H_0 X.fs) (hex : X.ex = []) (hfn : ∀ x, X.fn x = true) {w : W} {v : V} (r : RM X B σ pins m h.nx H w v) : RC B.G (CfAt B.G s H (frs X.stack)) m h.nx H w v := by
  have lift := cf_later I hex rh
  cases r with
  | rc r => rw [hcf] at r; exact r.map (fun _ _ => rfl) (Nat.le_refl _) .refl lift
  | @mk k f c P caps t o fd pos ps vs js a b nf d e hP g i j k l q =>
    obtain ⟨p1, p2, p3, p4, p5⟩ := I.pin (f, o) (List.mem_append_right _ b)
    have hcl : ∀ y a, (cloFrom X.env.cells t.scope.names []).lookup y = some a → X.env.cells.lookup y = some a := (NdefX.Caps.made I.ok k.free k.fr k.at_).sub
    have C := NdefX.cells_of I (NdefX.Caps.made I.ok k.free k.fr k.at_)
    rw [← l] at C
    refine .clo ⟨t, a, _, c, o, fd, P, pos, ps, p1, p2, nf, d, e, hP, g, i, j, C, fun y a ea z => ?_⟩ (by rw [hcf] at q; exact q.map (fun _ _ => rfl) (Nat.le_refl _) .refl lift)
    have ex := hcl y a ea
    rcases List.mem_cons.mp (I.stkSub _ z) with z | z
    · exact I.cne y a ex z
    · have lo := I.ok.cab y a (hfn y) ex
      obtain ⟨_, ob, ho, _⟩ := I.ok.funs.mem z
      exact absurd (Nat.lt_of_lt_of_le (Heap.lt_size ho) lo) (Nat.lt_irrefl _)
theorem rms_later {h : Hpe} {s : Shared} (I : Inv X pins σ H s) (rh : RH B.G m h H) (hcf : B.cf = CfAt B.G X.s_0 X.H_0 X.fs) (hex : X.ex = []) (hfn : ∀ x, X.fn x = true) : ∀ {ws : List W} {vs : List V}, RMs X B σ pins m h.nx H ws vs → RCs B.G (CfAt B.G s H (frs X.stack)) m h.nx H ws vs
  | _, _, .nil => .nil
  | _, _, .cons a b => .cons (rm_later I rh hcf hex hfn a) (rms_later I rh hcf hex hfn b)
end
abbrev FL := Rho → Hpe → Option (List W)
structure SLt (X : Cx) (B : Bx) (es : List Expr) (f : FL) : Prop where
  run : ∀ (pos : Pos) (pins : List (Addr × Obj)) (s : Shared) (σ : L2.St) (H : Hp) (m : Nat → Addr) (h : Hpe) (ρ : Rho) (ws : List W) (K : List Value → Shared → Prop), Inv X pins σ H s → SS B.G B.cf m h ρ σ H → f ρ h = some ws →
    (∀ (pins' : List (Addr × Obj)) (H' : Hp) (s' : Shared) (us : List Value) (vs : List V), (∀ p ∈ pins, p ∈ pins') → Inv X pins' σ H' s' → RH B.G m h H' → Mv m h.nx H m h.nx H' → Kt B.G H H' → Vals vs us → RMs X B σ pins' m h.nx H' ws vs → K us s') →
    wpAny (model X.prog X.w) X.A (spliced (backTo pos (starEach es X.env))) K X.xe s
def lN : FL := fun _ _ => some []
def capsOf (ρ : Rho) (js : List Nat) : Option (List W) := mapO (fun j => match ρ[j]? with
  | some (some w) => some w
  | _ => none) js
def lLam (k : Nat) (js : List Nat) (f : FL) : FL := fun ρ h => match capsOf ρ js with
  | some caps => match f ρ h with
    | some ws => some (.clo k caps :: ws)
    | none => none
  | none => none
section
variable {X : Cx} {B : Bx} {e : Expr} {es : List Expr} {f : FL} {x : Str} {p lpos pos : Pos} {i k : Nat}
theorem sl_nil : SLt X B [] lN := ⟨fun pos pins s σ H m h ρ ws K I ss e hk => by
  cases e
  exact Calls.spliced_nil (hk pins H s [] [] (fun _ z => z) I ss.rh Mv.refl Kt.refl .nil .nil)⟩
theorem caps_ok {G : GC} {cf : CF} {m : Nat → Addr} {h : Hpe} {ρ : Rho} {σ : L2.St} {H : Hp} (s : SS G cf m h ρ σ H) : ∀ {js : List Nat} {caps : List W}, capsOf ρ js = some caps → ∃ vs : List V, vs.map some = js.map (NdefX.slotAt σ) ∧ RCs G cf m h.nx H caps vs
  | [], caps, e => by cases e; exact ⟨[], rfl, .nil⟩
  | j :: js, caps, e => by
    unfold capsOf at e
    simp only [mapO] at e
    split at e
    · cases e
    · rename_i w ew
      split at e
      · cases e
      · rename_i ws ews
        cases e
        split at ew
        · rename_i w' ew'
          cases ew
          obtain ⟨v, e1, rc⟩ := s.sl j w ew'
          obtain ⟨vs, e2, rs⟩ := caps_ok s (js := js) ews
          exact ⟨v :: vs, by rw [List.map_cons, List.map_cons, e2, NdefX.slotAt_of e1], .cons rc rs⟩
        · cases ew
theorem Inv.pinned {pins : List (Addr × Obj)} {σ : L2.St} {H : Hp} {s : Shared} (I : Inv X pins σ H s) {f : Addr} {o : Obj} (e : s.heap.get? f = some o) (n : H f = none) (nl : f ≠ X.env.locals) (nf : f ∉ frs X.stack) (nc : ∀ v, o.data ≠ .cell v) : Inv X (pins ++ [(f, o)]) σ H s := by
  refine I.pins_of fun p hp => ?_
  rcases List.mem_append.mp hp with z | z
  · exact I.pin p (List.mem_append_right _ z)
  · obtain rfl := List.mem_singleton.mp z
    refine ⟨e, n, nl, fun z => nf ?_, nc⟩
    rcases I.ok.stk with q | ⟨q, _⟩
    · rw [q]; exact z
    · rw [q]
      unfold frs
      rw [List.filterMap_cons]
      split
      · exact z
      · exact List.mem_cons_of_mem _ z
theorem sl_lam {t : CTx} {c P : Addr} {params : Arguments} {body : Expr} {scope : Scope} {js : List Nat} (TB : GxR.TabB X.base X.mg c P) (hcode : X.env.code = .ref c) (hP : P ∈ B.G.ltabs) (ht : B.G.tx k = some t) (hq : t.qual = X.env.qual ++ "<lambda>") (hs : t.scope = scope) (hbd : t.body = .expr body) (hn : B.G.nm lpos.line lpos.col = t.qual)
    (hdef : defaultsOf params X.env = ([], [])) (cb : CapsB X t js) (hbind : ∀ (cl : List (Str × Addr)) (pm cd ct : Value) (us : List Value), us.length = t.ps.length → bindArgs (PySem.W.kla_fn "<lambda>" t.qual params body t.scope cl pm cd ct) ⟨us, []⟩ = pure (t.ps.zip us))
    (r : SLt X B es f) (he : starEach (.Lambda params body scope lpos :: es) X.env = (false, eval (.Lambda params body scope lpos) X.env) :: starEach es X.env) : SLt X B (.Lambda params body scope lpos :: es) (lLam k js f) := ⟨fun pos pins s σ H m h ρ ws K I ss e hk => by
  subst hs
  rw [he]
  simp only [lLam] at e
  split at e
  · rename_i caps ec
    split at e
    · rename_i ws' ews
      cases e
      obtain ⟨vs0, ev, rcs⟩ := caps_ok ss ec
      have hfree : ∀ y ∈ t.scope.names, y.2 = .free → ∃ c, X.env.cells.lookup y.1 = some c := fun y hy z => (cb.free y hy z).elim (fun q => I.ok.has _ (.inl q)) fun q => I.ok.has _ (.inr q)
      refine Calls.spliced_cons (lam_mk I ss.rh TB hcode hP (by rw [hn, hq]) hdef hfree fun f' c' pm ctv H1 s1 I1 rh1 mv1 kt1 hf hfn hfr hfl ⟨ps, eps, ecd⟩ => ?_)
      have I2 := Inv.pinned I1 hf hfn hfl hfr (fun v z => by cases z)
      refine r.run pos _ s1 σ H1 m h ρ ws' _ I2 (ss.mv rh1 mv1) ews fun pins' H' s' us vs hp I' rh' mv kt rv rm => ?_
      have mk : RM X B σ pins' m h.nx H1 (.clo k caps) (.ref f') := .mk ht (hp _ (List.mem_append_right _ (List.mem_singleton.mpr rfl))) hfr rfl ⟨hq.symm, rfl, rfl, rfl, hbd.symm, rfl, rfl, by rw [← hq]; exact hbind _ _ _ _⟩ hP eps ecd hn cb ev (rcs.map (fun _ _ => rfl) (Nat.le_refl _) (mv1.tupk ss.rh) fun _ _ _ z => z)
      exact hk pins' H' s' (.ref f' :: us) (.ref f' :: vs) (fun p z => hp p (List.mem_append_left _ z)) I' rh' (mv1.trans (rh1.mv_ne mv1) mv) (kt1.trans kt) (.cons rfl rv) (.cons (mk.mono (mv.tupk rh1) kt fun _ z => z) rm)
    · cases e
  · cases e⟩
end
structure SAC (X : Cx) (B : Bx) (es : List Expr) (f : FA) : Prop where
  run : ∀ (pos : Pos) (pins : List (Addr × Obj)) (s : Shared) (σ : L2.St) (H : Hp) (m : Nat → Addr) (h : Hpe) (ρ : Rho) (K : List Value → Shared → Prop), Inv X pins σ H s → SS B.G B.cf m h ρ σ H →
    (match f ρ h with
      | .ok ws h' => ∀ (pins' : List (Addr × Obj)) (m' : Nat → Addr) (H' : Hp) (s' : Shared) (us : List Value) (vs : List V), (∀ p ∈ pins, p ∈ pins') → Inv X pins' σ H' s' → RH B.G m' h' H' → Mv m h.nx H m' h'.nx H' → Vals vs us → RMs X B σ pins' m' h'.nx H' ws vs → K us s'
      | .ex x h' => ∀ m' H' c d, RH B.G m' h' H' → Mv m h.nx H m' h'.nx H' → ExR B.G B.cl m' h'.nx H' x c d → B.W c d σ H'
      | .no => False) → wpAny (model X.prog X.w) X.A (spliced (backTo pos (starEach es X.env))) K X.xe s
def aL (f : FL) : FA := fun ρ h => match f ρ h with
  | some ws => .ok ws h
  | none => .no
section
variable {X : Cx} {B : Bx} {e : Expr} {es : List Expr} {fe : FE} {fl : FL} {fs : FA} {x : Str} {p pos : Pos} {n k : Nat} {g : List W → Hpe → Res W}
theorem sac_l (r : SLt X B es fl) : SAC X B es (aL fl) := ⟨fun pos pins s σ H m h ρ K I ss hk => by
  unfold aL at hk
  cases e : fl ρ h with
  | none => rw [e] at hk; exact hk.elim
  | some ws =>
    rw [e] at hk
    exact r.run pos pins s σ H m h ρ ws K I ss e fun pins' H' s' us vs hp I' rh' mv kt rv rm => hk pins' m H' s' us vs hp I' rh' mv rv rm⟩
theorem sac_cons (ha : SE X B e fe) (r : SAC X B es fs) (hs : starEach (e :: es) X.env = (false, eval e X.env) :: starEach es X.env) : SAC X B (e :: es) (aC fe fs) := ⟨fun pos pins s σ H m h ρ K I ss hk => by
  rw [hs]
  unfold aC Res.bind at hk
  refine Calls.spliced_cons (thn (ha.run pins s σ H (fun v H1 => ∃ m1 h1 w, fe ρ h = .ok w h1 ∧ RH B.G m1 h1 H1 ∧ Mv m h.nx H m1 h1.nx H1 ∧ RW B.G m1 h1.nx H1 w v) I ⟨m, h, ρ, ss, ?_⟩) fun u s1 ⟨v, H1, I1, rv1, m1, h1, w, e1, rh1, mv1, rw1⟩ => ?_)
  · cases e : fe ρ h with
    | ok w h1 => exact fun m' H' v a b c => ⟨m', h1, w, rfl, a, b, c⟩
    | ex y h1 => rw [e] at hk; exact hk
    | no => rw [e] at hk; exact hk.elim
  · rw [e1] at hk
    dsimp only at hk
    refine r.run pos pins s1 σ H1 m1 h1 ρ _ I1 (ss.mv rh1 mv1) ?_
    cases e2 : fs ρ h1 with
    | ok ws h2 =>
      rw [e2] at hk
      intro pins' m' H' s' us vs hp I' rh' mv rv rm
      have mv' := mv1.trans (rh1.mv_ne mv1) mv
      exact hk pins' m' H' s' (u :: us) (v :: vs) hp I' rh' mv' (.cons rv1 rv) (.cons (.rc (.rw (rw1.mono mv.old mv.le (mv.tupk rh1)))) rm)
    | ex y h2 =>
      rw [e2] at hk
      exact fun m' H' c d a b c' => hk m' H' c d a (mv1.trans (rh1.mv_ne mv1) b) c'
    | no => rw [e2] at hk; exact hk.elim⟩
theorem se_callC {ps : List Str} (D : DfE X.prog X.w X.K X.mg X.base B.G B.cl x ps k g) (hcf : B.cf = CfAt B.G X.s_0 X.H_0 X.fs) (hex : X.ex = []) (hfn : ∀ x, X.fn x = true) (tk : Takes X B.W) (hr : Room k X.A) (hg : Gl X x) (ha : SAC X B (e :: es) fs) (hdb : (x == ("__debug__" : Str)) = false)
    (he : starEach (e :: es) X.env = (false, eval e X.env) :: starEach es X.env) (hpl : (backTo pos (starEach es X.env)).any (·.1) = false) (hn : ps.length = n) : SE X B (.Call (.Name x p) (e :: es) [] pos) (eCl n g fs) := by
  subst hn
  obtain ⟨f, fd, F, hm, hk, hb⟩ := D.ex
  refine ⟨fun pins s σ H Q I ⟨m, h, ρ, ss, o⟩ => ?_⟩
  refine wpAny_Call_Name_kw (ld_glob I hg hm ?_ hdb)
  refine PySem.W.callWith_K (h₀ := X.base) I.ok.mod.kin hk (ha.run pos pins s σ H m h ρ _ I ss ?_) he hpl
  simp only [eCl, Res.bind] at o
  cases ef : fs ρ h with
  | ok ws h1 =>
    rw [ef] at o
    intro pins' m' H' s' us vs hp I' rh' mv rv rm
    refine ⟨I'.kIn, ?_⟩
    have o : Out B.G B.cl (RW B.G) (fun c d H' => B.W c d σ H') m h H (bif Nat.beq ws.length ps.length then g ws h1 else .no) Q := o
    have rcs := rms_later I' rh' hcf hex hfn rm
    cases c : Nat.beq ws.length ps.length with
    | false => rw [c] at o; exact o.elim
    | true =>
      rw [c] at o
      have hl : us.length = ps.length := by rw [← rv.length, ← rcs.len]; exact beq_eq c
      have b := hb s' us I'.kIn (by rw [List.append_nil]; exact hl)
      rw [List.append_nil] at b
      have I2 : Inv X pins σ H' s' := I'.pins_of fun p z => I'.pin p (List.mem_append_right _ (hp p z))
      exact run_any tk I2 (F.run X.A X.stack s' H' ⟨us, []⟩ us vs Q _ hr I2.env0 b rv ⟨m', h1, ws, rh', rcs, beq_eq c, Out.shift ss.rh rh' mv o⟩)
  | ex y h1 => rw [ef] at o; exact o
  | no => rw [ef] at o; exact o.elim
end
end EV
namespace EV
open PySem PySem.Spec PyProof.Rows L2
def sAt (l : List Stmt) (i : Nat) : Stmt := l.getD i (.Pass ⟨0, 0, 0, 0⟩)
def eNone : Expr := .Constant .none 0 ⟨0, 0, 0, 0⟩
def sVal : Stmt → Expr
  | .Return (some e) _ => e
  | .Assign _ e _ => e
  | .Expr e _ => e
  | _ => eNone
def eArg (e : Expr) (i : Nat) : Expr := match e with
  | .Call _ es _ _ => es.getD i eNone
  | .Tuple es _ _ => es.getD i eNone
  | .List es _ => es.getD i eNone
  | _ => eNone
def lamS : Expr → Scope
  | .Lambda _ _ s _ => s
  | _ => ⟨.module, [], false, false, []⟩
def lamB : Expr → Expr
  | .Lambda _ b _ _ => b
  | _ => eNone
def lamPos : Expr → Pos
  | .Lambda _ _ _ p => p
  | _ => ⟨0, 0, 0, 0⟩
def assoc {α : Type} : List (Nat × α) → Nat → Option α
  | [], _ => none
  | (j, a) :: r, k => bif Nat.beq k j then some a else assoc r k
theorem assoc_nil {α : Type} {Q : Nat → α → Prop} : ∀ k a, assoc ([] : List (Nat × α)) k = some a → Q k a := fun _ _ e => nomatch e
theorem assoc_cons {α : Type} {Q : Nat → α → Prop} {j : Nat} {a : α} {r : List (Nat × α)} (h : Q j a) (t : ∀ k b, assoc r k = some b → Q k b) : ∀ k b, assoc ((j, a) :: r) k = some b → Q k b := fun k b e => by
  unfold assoc at e
  cases c : Nat.beq k j with
  | true =>
    rw [c] at e
    have e : some a = some b := e
    cases e
    rw [beq_eq c]; exact h
  | false =>
    rw [c] at e
    exact t k b e
def nmOf : List (Pos × Str) → Nat → Nat → Str
  | [], _, _ => ""
  | (p, x) :: r, l, c => bif Nat.beq p.line l && Nat.beq p.col c then x else nmOf r l c
structure GX (G : GC) (ns : List (Pos × Str)) (ts : List (Nat × CTx)) : Prop where
  nm : G.nm = nmOf ns
  tx : G.tx = assoc ts
section
variable {X : Cx} {B : Bx} {es : List Expr} {f : FL} {x : Str} {p pos : Pos} {k : Nat}
theorem capsB_by {t : CTx} {js : List Nat} (h : NdefX.ndefB X.env.scope t.scope t.fr = true) (a : js.map (fun j => X.N[j]?) = t.fr.map some) : CapsB X t js := ⟨NdefX.ndef_free h, NdefX.ndef_fr h, a⟩
end
section
variable {P : Program} {w : World} {K : PySem.W.Frag} {mg : Str → Option Value} {base : Heap} {G : GC} {cl : Cls} {lv : Nat} {t : CTx}
theorem no_cl : ClE P w K mg base G cl lv t fun _ _ => .no := ⟨fun _ _ _ _ _ _ _ _ _ _ _ _ _ _ ⟨_, _, _, _, _, _, _, _, o⟩ => o.elim⟩
theorem arG_no {n : Nat} {ws : List W} {h : Hpe} : (Res.no : Res W) = arG n (fun _ _ => .no) ws h := by unfold arG; cases Nat.beq ws.length n <;> rfl
end
end EV
namespace EV
open PySem PySem.Spec PyProof.Rows L2
section
variable {P : Program} {w : World} {K : PySem.W.Frag} {mg : Str → Option Value} {base : Heap} {G : GC} {cl : Cls} {n : Str} {st : Stmt} {ps : List Str} {lv : Nat} {g0 T : List W → Hpe → Res W} {c Pt g : Addr}
theorem At.dv (A : At K mg n st ps) (hg : mg n = some (.ref g)) (ok : ∀ f fd, Fun K n n st f fd → FnE P w K mg base lv f fd ps G cl g0) (e : ∀ ws h, T ws h = arG ps.length g0 ws h) : DvE P w K mg base G cl lv g T := by
  obtain ⟨f, fd, F, m, b⟩ := A.ex
  have z := hg.symm.trans m
  cases z
  exact ⟨fd, ps, g0, ok _ fd F, F.kp, .all b, e⟩
theorem AtC.dv (A : AtC K mg n st ps c Pt) (hg : mg n = some (.ref g)) (ok : ∀ f fd, FunC K n n st f fd c → FnE P w K mg base lv f fd ps G cl g0) (e : ∀ ws h, T ws h = arG ps.length g0 ws h) : DvE P w K mg base G cl lv g T := by
  obtain ⟨f, fd, F, kp, m, b⟩ := A.ex
  have z := hg.symm.trans m
  cases z
  exact ⟨fd, ps, g0, ok _ fd F, kp, .all b, e⟩
end
end EV
namespace EV
open PySem PySem.Spec PyProof.Rows L2
section
variable {X : Cx} {pins : List (Addr × Obj)} {σ : L2.St} {H : Hp} {s : Shared} {a b : Addr} {xs : Dn} {k : NestedKey} {A : Around} {E : Value → Shared → Prop}
end
section
variable {X : Cx} {o e : Expr} {es : List Expr} {to : TE} {t : TA} {apos cpos : Pos} {r : V → List V → Hp → VK → Prop} {id : String} {name : Str}
end
section
variable {G : GC} {cl : Cls} {Wx : Value → Option Addr → Hp → Prop} {m : Nat → Addr} {h : Hpe} {H : Hp} {w : W} {ws : List W} {v : V} {vs : List V} {Q : VK}
end
section
variable {X : Cx} {B : Bx} {e o : Expr} {es : List Expr} {fo : FE} {fs : FA} {apos cpos : Pos}
end
end EV
namespace EV
open PySem PySem.Spec PyProof.Rows L2
section
variable {ns : List Int} {its : Array Value} {i : Nat} {x : Int}
end
section
variable {prog : Program} {w : World} {A : Around} {R : Result → Shared → Prop} {a : Addr} {res : Value}
end
end EV
namespace EV
open PySem PySem.Spec PyProof.Rows L2
section
variable {prog : Program} {w : World} {A : Around} {R : Result → Shared → Prop} {a : Addr} {res : Value}
end
end EV
namespace EV
open PySem PySem.Spec PyProof.Rows L2
section
variable {X : Cx} {pins : List (Addr × Obj)} {σ : L2.St} {H : Hp} {s : Shared} {l : Addr}
end
section
variable {X : Cx} {B : Bx} {e : Expr} {es : List Expr} {fs : FA} {x : Str} {p pos : Pos} {id : String} {r : List V → Hp → VK → Prop} {g : List W → Hpe → Res W}
end
end EV
namespace EV
open PySem PySem.Spec PyProof.Rows L2
section
variable {X : Cx} {B : Bx} {lv i : Nat} {T : Nat → List W → Hpe → Res W} {x : Str} {p pos : Pos} {e func : Expr} {es : List Expr} {ff f : FE} {fs : FA}
end
theorem ok_CEf {P : Program} {w : World} {K : PySem.W.Frag} {mg : Str → Option Value} {base : Heap} {G : GC} {cl : Cls} {k : Nat} {t : CTx} {N : List Str} {fe : FE} {fs : FS} {body : Expr} (hb : t.body = .expr body) (S : NdefX.NScope N t.ps t.fr t.scope) (hf : fs = sRt fe)
    (hbody : ∀ (cls : List (Str × Addr)) (c f : Addr) (A : Around) (outer : List PySem.Env) (s : Shared) (H : Hp) (E : XK), Room k (A.deeper (NdefX.envF (nfOf t cls c) f s.heap.objs.size)) →
      SE (NdefX.ncx (L2.CX P w) P w K mg base N (nfOf t cls c) f A outer s H E) ⟨G, cl, fun c d _ H' => E c d H', CfAt G s H (frs outer)⟩ body fe) : ClE P w K mg base G cl (k + 1) t (runB N.length fs) := by
  subst hf
  exact ok_CE hb S hbody
end EV
namespace EV
open PySem PySem.Spec PyProof.Rows L2 RZ
def ZRec (h : Heap) (z TI TO : Addr) (f0 : Value) (fl : Bool) : Prop := h.get? z = some { cls := .type "zip", dict := none, data := .fields #[f0, .bool fl, .bool false, .ref TI, .ref TO], slots := #[] }
def ZAny (h : Heap) (z TI TO : Addr) : Prop := ∃ f0 fl, (f0 = .none ∨ ∃ T : Addr, f0 = rawInt T) ∧ ZRec h z TI TO f0 fl
section
variable {prog : Program} {w : World} {A : Around} {E : Value → Shared → Prop} {s : Shared} {z TI TO i1 i2 l1 l2 : Addr} {k : Nat} {xs ys : Array Value}
end
end EV
namespace EV
open PySem PySem.Spec PyProof.Rows L2 RZ
def ZSt (z TI TO i1 i2 l1 l2 : Addr) (k : Nat) (h : Heap) : Prop := ZAny h z TI TO ∧ IsPair h TI (.ref i1) (.ref i2) ∧ (∃ a b, IsPair h TO a b) ∧ h.IsTupleIter i1 l1 k ∧ h.IsTupleIter i2 l2 k
section
variable {prog : Program} {w : World} {A : Around} {E : Value → Shared → Prop} {s : Shared} {z TI TO i1 i2 l1 l2 e : Addr} {k : Nat} {xs ys : Array Value}
theorem ZSt.at {h h' : Heap} (st : ZSt z TI TO i1 i2 l1 l2 k h) (kp : ∀ c, c = z ∨ c = TI ∨ c = TO ∨ c = i1 ∨ c = i2 → ∀ o, h.get? c = some o → h'.get? c = some o) : ZSt z TI TO i1 i2 l1 l2 k h' := by
  obtain ⟨⟨f0, fl, hf, hr⟩, h1, ⟨a, b, h2⟩, h3, h4⟩ := st
  exact ⟨⟨f0, fl, hf, kp z (.inl rfl) _ hr⟩, kp TI (.inr (.inl rfl)) _ h1, ⟨a, b, kp TO (.inr (.inr (.inl rfl))) _ h2⟩, h3.at fun o q => kp i1 (by simp) o q, h4.at fun o q => kp i2 (by simp) o q⟩
end
end EV
namespace EV
open PySem PySem.Spec PyProof.Rows L2 RZ
section
variable {X : Cx} {B : Bx} {c a b : Expr} {fs : FA} {p p2 pos pos2 tpos : Pos}
end
end EV
namespace EV
open PySem PySem.Spec PyProof.Rows L2
section
variable {ns : List Int} {h : Hpe} {i j : Int}
theorem atI_0 (w : W) (ws : List W) : atI (w :: ws) 0 = some w := by
  unfold atI ixN
  simp
theorem bl_1 {g : List W → Hpe → Res W} {f : FE} {ρ : Rho} {w : W} {h1 : Hpe} (e : f ρ h = .ok w h1) : eBl g (aC f aN) ρ h = g [w] h1 := by
  show ((f ρ h).bind fun w h1 => (aN ρ h1).bind fun ws h2 => Res.ok (w :: ws) h2).bind g = _
  rw [e]
  rfl
theorem e2_ok {g : W → W → Hpe → Res W} {fa fb : FE} {ρ : Rho} {a b : W} {h1 h2 : Hpe} (e : fa ρ h = .ok a h1) (e' : fb ρ h1 = .ok b h2) : e2 g fa fb ρ h = g a b h2 := by
  show ((fa ρ h).bind fun a h1 => (fb ρ h1).bind fun b h2 => g a b h2) = _
  rw [e]
  show ((fb ρ h1).bind fun b h2 => g a b h2) = _
  rw [e']
  rfl
theorem if_ok {t : FT} {fa fb : FE} {ρ : Rho} {b : Bool} {h1 : Hpe} (e : t ρ h = .ok b h1) : eIf t fa fb ρ h = bif b then fa ρ h1 else fb ρ h1 := by
  show ((t ρ h).bind fun b h1 => bif b then fa ρ h1 else fb ρ h1) = _
  rw [e]
  rfl
theorem sif_no {t : FT} {s1 s2 : FS} {ρ : Rho} {h1 : Hpe} (e : t ρ h = .ok false h1) : sIf t s1 s2 ρ h = s2 ρ h1 := by
  show bindS (t ρ h) ρ (fun b h1 => bif b then s1 ρ h1 else s2 ρ h1) = _
  rw [e]
  rfl
theorem sas_n {f : FE} {ρ : Rho} {i : Nat} {w : W} {h1 : Hpe} (e : f ρ h = .ok w h1) : sAs f (gN i) ρ h = .nx (ρ.set i (some w)) h1 := by
  show bindS (f ρ h) ρ (fun w h1 => (gN i w ρ h1).cl) = _
  rw [e]
  exact congrArg (fun r => RS.nx r h1) (setR_eq ρ i (some w))
theorem srt_ok {f : FE} {ρ : Rho} {w : W} {h1 : Hpe} (e : f ρ h = .ok w h1) : sRt f ρ h = .rt w h1 := by
  show bindS (f ρ h) ρ (fun w h1 => .rt w h1) = _
  rw [e]
  rfl
theorem seq_nx {s1 s2 : FS} {ρ ρ' : Rho} {h' : Hpe} (e : s1 ρ h = .nx ρ' h') : sSeq s1 s2 ρ h = s2 ρ' h' := by
  unfold sSeq
  rw [e]
  rfl
theorem seq_rt {s1 s2 : FS} {ρ : Rho} {w : W} {h' : Hpe} (e : s1 ρ h = .rt w h') : sSeq s1 s2 ρ h = .rt w h' := by
  unfold sSeq
  rw [e]
  rfl
theorem run_rt {n : Nat} {f : FS} {ws : List W} {w : W} {h' : Hpe} (e : f (ws.map some ++ List.replicate (n - ws.length) none) h = .rt w h') : runB n f ws h = .ok w h' := by
  unfold runB
  rw [e]
end
end EV
namespace EV
open PySem PySem.Spec PyProof.Rows L2
section
variable {X : Cx} {B : Bx} {a b c : Expr} {f g : FE} {p p2 pos pos2 : Pos}
end
end EV
namespace EV
open PySem PySem.Spec PyProof.Rows L2
theorem rws_app {G : GC} {m : Nat → Addr} {n : Nat} {H : Hp} : ∀ {ws : List W} {vs : List V} {ws' : List W} {vs' : List V}, RWs G m n H ws vs → RWs G m n H ws' vs' → RWs G m n H (ws ++ ws') (vs ++ vs')
  | _, _, _, _, .nil, q => q
  | _, _, _, _, .cons a b, q => .cons a (rws_app b q)
theorem rws_rev {G : GC} {m : Nat → Addr} {n : Nat} {H : Hp} : ∀ {ws : List W} {vs : List V}, RWs G m n H ws vs → RWs G m n H ws.reverse vs.reverse
  | _, _, .nil => .nil
  | _, _, .cons a b => by
    rw [List.reverse_cons, List.reverse_cons]
    exact rws_app (rws_rev b) (.cons a .nil)
end EV
namespace EV
open PySem PySem.Spec PyProof.Rows L2
section
variable {G : GC} {m : Nat → Addr} {n : Nat} {H : Hp}
end
section
variable {X : Cx} {B : Bx} {e : Expr} {fs : FA} {p pos : Pos}
end
end EV
namespace EV
open PySem PySem.Spec PyProof.Rows L2
section
variable {prog : Program} {w : World} {A : Around} {E : Value → Shared → Prop} {s : Shared}
theorem adj_rev (n : Nat) : Builtin.Slice.sliceAdjust none none (-1) (n : Int) = ((n : Int) - 1, -1) := by
  unfold Builtin.Slice.sliceAdjust
  first
  | rfl
  | simp
theorem places_rev (n : Nat) : Builtin.Slice.slicePlaces ((n : Int) - 1) (-1) (-1) = n := by
  unfold Builtin.Slice.slicePlaces
  have h1 : ¬ ((-1 : Int) > 0) := by decide
  simp only [h1, if_false]
  split
  · have e : (((n : Int) - 1 - -1 - 1) / (- -1) + 1).toNat = n := by
      rw [show (- -1 : Int) = 1 by decide, Int.ediv_one]; omega
    first
    | exact e
    | (simp only [show (- -1 : Int) = 1 by decide, Int.ediv_one]; omega)
  · omega
theorem pick_rev (xs : Array Value) : ((List.range xs.size).filterMap fun (k : Nat) => xs[((xs.size : Int) - 1 + (k : Int) * (-1)).toNat]?) = xs.toList.reverse := by
  have e : (List.range xs.size).filterMap (fun (k : Nat) => xs[((xs.size : Int) - 1 + (k : Int) * (-1)).toNat]?) = ((List.range xs.size).map fun k => xs.size - 1 - k).filterMap (xs[·]?) := by
    rw [List.filterMap_map]
    congr 1
    funext k
    have : ((xs.size : Int) - 1 + (k : Int) * (-1)).toNat = xs.size - 1 - k := by omega
    rw [this]; rfl
  rw [e, PySem.W.krv_range, List.filterMap_reverse, PySem.W.krv_all]
theorem applied_rev {sl : Addr} {vl vu vs : Value} {n : Nat} {Q : Int × Int × Nat → Shared → Prop} (hs : s.heap.IsSliceOf sl vl vu vs) (pl : IsPart vl none) (pu : IsPart vu none) (ps : IsPart vs (some (-1)))
    (h : Q ((n : Int) - 1, -1, n) s) : wpAny (model prog w) A (Builtin.Slice.sliceApplied (.ref sl) (pure (n : Int))) Q E s := by
  obtain ⟨os, hos, hcs, hds⟩ := id hs
  unfold Builtin.Slice.sliceApplied Builtin.Slice.sliceFields
  refine wpAny_bind (wpAny_bind (wpAny_field hos hds (x := vl) rfl (wpAny_bind (wpAny_field hos hds (x := vu) rfl (wpAny_bind (wpAny_field hos hds (x := vs) rfl (wpAny_pure ?_)))))))
  refine wpAny_bind (HT.slicePart_ ps ?_)
  show wpAny (model prog w) A (if ((-1 : Int) == 0) = true then _ else _) _ E s
  rw [if_neg (by decide)]
  refine wpAny_bind (HT.slicePart_ pl (wpAny_bind (HT.slicePart_ pu (wpAny_bind (wpAny_pure ?_)))))
  show wpAny (model prog w) A (match Builtin.Slice.sliceAdjust none none (-1) (n : Int) with | (lo, hi) => pure (lo, (-1 : Int), Builtin.Slice.slicePlaces lo hi (-1))) _ E s
  rw [adj_rev]
  show wpAny (model prog w) A (pure ((n : Int) - 1, (-1 : Int), Builtin.Slice.slicePlaces ((n : Int) - 1) (-1) (-1))) _ E s
  rw [places_rev]
  exact wpAny_pure h
theorem item_rev {t sl : Addr} {items : Array Value} {vl vu vs : Value} {Q : Value → Shared → Prop} (ht : IsTup s.heap t items) (hs : s.heap.IsSliceOf sl vl vu vs) (pl : IsPart vl none) (pu : IsPart vu none) (ps : IsPart vs (some (-1)))
    (h : Q (.ref s.heap.objs.size) { s with heap := s.heap.push { cls := .type "tuple", data := .seq items.toList.reverse.toArray } }) (hz : items.size ≤ sizeLine) : wpAny (model prog w) A (getItem (.ref t) (.ref sl)) Q E s := by
  have fit : sizeOk (.seq items.toList.reverse.toArray) := by
    show items.toList.reverse.toArray.size ≤ sizeLine
    rw [List.size_toArray, List.length_reverse, Array.length_toList]; exact hz
  obtain ⟨os, hos, hcs, hds⟩ := id hs
  have ty : s.TypeIs (.ref sl) "slice" := ⟨os, hos, hcs⟩
  unfold getItem
  try with_reducible refine wpAny_holding ?_
  first | refine wpAny_bind (wpAny_pure ?_) | skip
  refine wpAny_bind (wpAny_sequenceKey (E := E) (s := s) ht.typeIs (by decide) ?_)
  refine wpAny_bind (wpAny_callSpecial?_slot (name := Str.ofString "__getitem__") ht.typeIs PyProof.Rows.slot_tuple_getitem (wpAny_call_entry PyProof.Rows.slot_tuple_getitem ht.typeIs entry_tuple_getitem ?_ (args_tuple_getitem _ _)))
  show wpAny (model prog w) _ (Builtin.Tuple.tupleItemsOf (.ref t) >>= _) _ _ s
  refine wpAny_bind (PyProof.Rows.tupleItemsOf_ ht ?_)
  refine wpAny_bind (wpAny_typeOf (s := s) ty ?_)
  rw [if_pos (by decide)]
  refine wpAny_bind (applied_rev hs pl pu ps ?_)
  have no : ¬ ((((items.size : Int) - 1) == 0 && (-1 : Int) == 1 && items.size == items.size) = true) := by
    rw [show ((-1 : Int) == 1) = false from by decide, Bool.and_false, Bool.false_and]; exact Bool.false_ne_true
  show wpAny (model prog w) _ (if (((items.size : Int) - 1) == 0 && (-1 : Int) == 1 && items.size == items.size) = true then _ else _) _ _ s
  rw [if_neg no, pick_rev]
  first
    | exact wpAny_bind (m := Builtin.Tuple.tupleExact _) (wpAny_newObj_type (wpAny_pure ⟨_, rfl, wpAny_pure h⟩) fit)
    | exact wpAny_bind (m := Builtin.Tuple.tupleExact _) (wpAny_newObj_type (wpAny_bind (wpAny_pure (wpAny_pure ⟨_, rfl, wpAny_pure h⟩))) fit)
    | exact wpAny_bind (wpAny_bind (m := Builtin.Tuple.tupleExact _) (wpAny_newObj_type (wpAny_pure (wpAny_pure ⟨_, rfl, wpAny_pure h⟩)) fit))
    | exact wpAny_bind (wpAny_bind (m := Builtin.Tuple.tupleExact _) (wpAny_newObj_type (wpAny_pure ⟨_, rfl, wpAny_pure h⟩) fit))
end
def tRev2 (K : PySem.W.Frag) (te : TE) : TE := fun σ H Q => te σ H fun x H1 => ∃ a xs, x = .ref a ∧ ((SqL K H1 a xs ∧ ∀ p, H1 p = none → Q (.ref p) (upd H1 p (.lst xs.reverse))) ∨ (SqT K H1 a xs ∧ ∀ p, H1 p = none → Q (.ref p) (upd H1 p (.tup xs.reverse))))
theorem pe_rev2 {X : Cx} {e : Expr} {te : TE} {k : Nat} {p1 p2 p3 pos : Pos} (he : PE X e te) : PE X (.Subscript e (.Slice none none (some (.UnaryOp .USub (.Constant (.int 1) k p1) p2)) p3) pos) (tRev2 X.K te) := by
  refine ⟨fun pins s σ H Q I h => ?_⟩
  refine Subscript_ (thn (he.run pins s σ H _ I h) fun v s1 ⟨x, H1, I1, r1, a, xs, ex, q⟩ => ?_)
  subst ex
  cases r1
  have one : PO X (some (.UnaryOp .USub (.Constant (.int 1) k p1) p2)) (tPart (tUn (rU fun i => .int (-i)) (tC (.int 1)))) := po_some (pe_un un_neg pe_int)
  refine wpAny_Slice (thn (po_none.run pins s1 σ H1 (fun o G => o = none ∧ G = H1) I1 ⟨rfl, rfl⟩) fun vl s2 ⟨l, G, I2, pl, el, eG⟩ => ?_)
  subst el eG
  refine thn (po_none.run pins s2 σ G (fun o G' => o = none ∧ G' = G) I2 ⟨rfl, rfl⟩) fun vu s3 ⟨u, G', I3, pu, eu, eG⟩ => ?_
  subst eu eG
  refine thn (one.run pins s3 σ G' (fun o G2 => o = some (-1) ∧ G2 = G') I3 ⟨1, rfl, -1, rfl, rfl, rfl⟩) fun vs s4 ⟨o, G2, I4, ps, eo, eG⟩ => ?_
  subst eo eG
  have I5 : Inv X pins σ G2 { s4 with heap := s4.heap.push { cls := .type "slice", data := .fields #[vl, vu, vs] } } := I4.kept (t' := s4.toks) fun b ob z => Heap.get?_push_of_some _ z
  show wpAny (model X.prog X.w) X.A (subscriptTail e (.Slice none none (some (.UnaryOp .USub (.Constant (.int 1) k p1) p2)) p3) (.ref a) (.ref s4.heap.objs.size)) (EP X pins σ Q) X.xe _
  rcases q with ⟨hx, q⟩ | ⟨hx, q⟩
  · obtain ⟨its, r, ht, hz⟩ := I5.list hx
    have hl := r.length
    refine PyProof.Rows.tail_any (ops := [.ref a, .ref s4.heap.objs.size]) ht.isList.typeIs (PySem.slot_list_getitem.lookup) ?_ (by with_unfolding_all rfl)
    refine wpAny_getItem_list_slice ht.isList (Heap.IsSliceOf.new _ vl vu vs) pl pu ps (by decide) ?_ (by rw [List.size_toArray]; omega)
    rw [PySem.W.krv_pick]
    refine ⟨.ref _, _, I5.laid (t' := s4.toks) (o := .lst xs.reverse) (fun b ob z => Heap.get?_push_of_some _ z) (Nat.le_refl _) ⟨?_, _, 0, r.reverse, Heap.get?_push_size _ rfl⟩, rfl, q _ (I5.hok.fresh (Nat.le_refl _))⟩
    rw [List.length_reverse]; exact hz
  · obtain ⟨its, r, ht, hz⟩ := I5.tuple hx
    have hl := r.length
    refine PyProof.Rows.tail_any (ops := [.ref a, .ref s4.heap.objs.size]) ht.typeIs (PyProof.Rows.slot_tuple_getitem.lookup) ?_ (by with_unfolding_all rfl)
    refine item_rev ht (Heap.IsSliceOf.new _ vl vu vs) pl pu ps ?_ (by rw [List.size_toArray]; omega)
    refine ⟨.ref _, _, I5.laid (t' := s4.toks) (o := .tup xs.reverse) (fun b ob z => Heap.get?_push_of_some _ z) (Nat.le_refl _) ⟨?_, its.reverse, r.reverse, IsTup.new _ _⟩, rfl, q _ (I5.hok.fresh (Nat.le_refl _))⟩
    rw [List.length_reverse]; exact hz
def eRev2 (f : FE) : FE := fun ρ h => (f ρ h).bind fun w h1 => match w with
  | .ref n => match rdL h1 n with
    | some ws => h1.al (.lst ws.reverse)
    | none => .no
  | .tup ws => .ok (.tup ws.reverse) h1
  | _ => .no
theorem se_rev2 {X : Cx} {B : Bx} {e : Expr} {f : FE} {k : Nat} {p1 p2 p3 pos : Pos} (hK : X.K = B.G.K) (he : SE X B e f) : SE X B (.Subscript e (.Slice none none (some (.UnaryOp .USub (.Constant (.int 1) k p1) p2)) p3) pos) (eRev2 f) :=
  pe_imp (pe_rev2 he) fun σ H Q ⟨m, h, ρ, s, o⟩ => ⟨m, h, ρ, s, (Out.bind s.rh o).mono fun v H1 ⟨w, m1, h1, r1, v1, q1, o1⟩ => by
    cases w <;> try exact o1.elim
    · rename_i ws
      obtain ⟨a, xs, rfl, s1, q⟩ := rw_tup q1
      exact ⟨a, xs, rfl, .inr ⟨by rw [hK]; exact s1, tup_ok r1 o1 (rws_rev q)⟩⟩
    · rename_i n
      obtain ⟨rfl, hn⟩ := rw_ref q1
      simp only at o1
      split at o1
      · rename_i ws e
        obtain ⟨xs, s1, q⟩ := r1.rd hn e
        exact ⟨_, xs, rfl, .inl ⟨by rw [hK]; exact s1, al_ok r1 o1 (.lst (rws_rev q))⟩⟩
      · exact o1.elim⟩
end EV
namespace EV
open PySem PySem.Spec PyProof.Rows L2
def gIsB (neg : Bool) : W → W → Hpe → Res W
  | .bl a, .bl b, h => .ok (.bl (neg != decide (a = b))) h
  | _, _, _ => .no
theorem os_isB {G : GC} : OpS G rIsB (gIsB false) := by
  intro cl Wx m h H a b x y Q rh ra rb o
  cases a <;> try exact o.elim
  cases b <;> try exact o.elim
  rename_i p q
  cases ra
  cases rb
  refine ⟨p, q, rfl, rfl, ?_⟩
  have z := o m H (.bl (decide (p = q))) rh Mv.refl (by rw [Bool.false_bne]; exact .bl _)
  exact z
section
variable {X : Cx} {B : Bx} {a b : Expr} {fa fb : FE} {pos : Pos}
theorem se_isB (ha : SE X B a fa) (hb : SE X B b fb) : SE X B (.Compare a [.Is] [b] pos) (e2 (gIsB false) fa fb) := se_cmp op_isBl os_isB ha hb (nomark _)
end
end EV
namespace EV
open PySem PySem.Spec PyProof.Rows L2
section
variable {X : Cx} {B : Bx} {e : Expr} {es : List Expr} {fs : FA} {f : FE} {p pos apos : Pos}
end
end EV
namespace EV
open PySem PySem.Spec PyProof.Rows L2
section
variable {G : GC} {m : Nat → Addr} {n : Nat} {h : Hpe} {H : Hp}
theorem RH.ob (r : RH G m h H) {i c : Nat} {fs : List (Str × W)} (hi : i < h.nx) (e : h.get i = some (.ob c fs)) : ∃ C dx gs, H (m i) = some (.ins C dx gs) ∧ G.cc c = some C ∧ fs.map (·.1) = gs.map (·.1) ∧ RWs G m h.nx H (fs.map (·.2)) (gs.map (·.2)) := by
  obtain ⟨o, ho, q1, q2, q3⟩ := r.obj i hi
  rw [e] at q1; cases q1
  cases q3 with
  | ob a b c => exact ⟨_, _, _, q2, a, b, c⟩
end
section
variable {X : Cx} {B : Bx} {a b o e value : Expr} {es : List Expr} {fo fv f : FE} {fs : FA} {pos p apos tpos : Pos} {x name : Str} {cs : List Nat} {c n k : Nat} {ps : List Str}
structure DmE (P : Program) (w : World) (K : PySem.W.Frag) (mg : Str → Option Value) (base : Heap) (G : GC) (cl : Cls) (c : Nat) (name : Str) (ps : List Str) (k : Nat) (g : List W → Hpe → Res W) : Prop where
  ex : ∃ C f fd, G.cc c = some C ∧ L2.Cls K C ∧ Meth K C name f ∧ FnE P w K mg base k f fd ps G cl g ∧ Binds K fd ps []
structure MkE (P : Program) (w : World) (K : PySem.W.Frag) (mg : Str → Option Value) (base : Heap) (G : GC) (cl : Cls) (x : Str) (c : Nat) (ps : List Str) (k : Nat) (g : List W → Hpe → Res W) : Prop where
  ex : ∃ C f fd, G.cc c = some C ∧ Mk K C f ∧ mg x = some (.ref C) ∧ FnE P w K mg base k f fd ps G cl g ∧ Binds K fd ps []
end
end EV
namespace EV
open PySem PySem.Spec PyProof.Rows L2
def lockW (h : Hpe) (n : Nat) : Option (List (Key × W) × Hpe) := match h.get n with
  | some (.dk kvs) => some (kvs, { h.set n (.fd kvs) with lk := n :: h.lk })
  | some (.fd kvs) => some (kvs, h)
  | _ => none
section
variable {G : GC} {m m' : Nat → Addr} {h h' : Hpe} {H H' : Hp}
theorem RH.relk (r : RH G m h H) (l : List Nat) : RH G m { h with lk := l } H := ⟨r.sz, r.inj, r.obj, r.tab, r.ltab⟩
theorem lock_ok {i : Nat} {kvs : List (Key × W)} (r : RH G m h H) (hi : i < h.nx) (e : lockW h i = some (kvs, h')) :
    (∃ kus, H (m i) = some (.dK kus) ∧ ∀ od, RH G m h' (upd H (m i) (.frz od (.dK kus))) ∧ Mv m h.nx H m h'.nx (upd H (m i) (.frz od (.dK kus))) ∧ i < h'.nx ∧ kvs.map (·.1) = kus.map (·.1) ∧ RWs G m h'.nx (upd H (m i) (.frz od (.dK kus))) (kvs.map (·.2)) (kus.map (·.2))) ∨
    (h' = h ∧ ∃ od kus, H (m i) = some (.frz od (.dK kus)) ∧ kvs.map (·.1) = kus.map (·.1) ∧ RWs G m h.nx H (kvs.map (·.2)) (kus.map (·.2))) := by
  obtain ⟨o, ho, q1, q2, q3⟩ := r.obj i hi
  unfold lockW at e
  rw [q1] at e
  cases q3 with
  | dk a b =>
    cases e
    refine .inl ⟨_, q2, fun od => ?_⟩
    obtain ⟨r2, v2⟩ := r.store hi (o := .fd kvs) (ho := .frz od (.dK _)) (.fd a b) (fun ob u z => by rw [q2] at z; cases z)
    exact ⟨r2.relk _, v2, hi, a, b.mono (fun _ _ => rfl) (Nat.le_refl _) (v2.tupk r)⟩
  | fd a b =>
    cases e
    exact .inr ⟨rfl, _, _, q2, a, b⟩
  | _ => cases e
def srcQ (kvs : List (Key × W)) (f : Key × W → W) : Src := fun _ i => match kvs[i]? with
  | some p => some (some (f p))
  | none => some none
theorem kv_at {n : Nat} : ∀ {kvs : List (Key × W)} {kus : List (Key × V)} {j : Nat} {p : Key × W}, kvs.map (·.1) = kus.map (·.1) → RWs G m n H (kvs.map (·.2)) (kus.map (·.2)) → kvs[j]? = some p → ∃ u, kus[j]? = some (p.1, u) ∧ RW G m n H p.2 u
  | [], _, _, _, _, _, e => by simp at e
  | _ :: _, [], _, _, a, _, _ => by cases a
  | q :: kvs, (k, u) :: kus, 0, p, a, r, e => by
    have a1 : q.1 = k := (List.cons.inj a).1
    have e1 : q = p := by simpa using e
    subst e1; subst a1
    cases r with
    | cons r1 _ => exact ⟨u, rfl, r1⟩
  | q :: kvs, (k, u) :: kus, j + 1, p, a, r, e => by
    cases r with
    | cons _ r2 =>
      obtain ⟨v, e1, e2⟩ := kv_at (j := j) (List.cons.inj a).2 r2 (by simpa using e)
      exact ⟨v, by simpa using e1, e2⟩
theorem srcQ_end {kvs : List (Key × W)} {kus : List (Key × V)} {f : Key × W → W} {j : Nat} (a : kvs.map (·.1) = kus.map (·.1)) (e : srcQ kvs f h j = some none) : kus.length ≤ j := by
  unfold srcQ at e
  split at e
  · cases e
  · rename_i z
    have l := congrArg List.length a
    simp only [List.length_map] at l
    rw [← l]
    exact List.getElem?_eq_none_iff.mp z
theorem srcQ_at {kvs : List (Key × W)} {f : Key × W → W} {j : Nat} {w : W} (e : srcQ kvs f h j = some (some w)) : ∃ p, kvs[j]? = some p ∧ w = f p := by
  unfold srcQ at e
  split at e
  · rename_i p z
    cases e
    exact ⟨p, z, rfl⟩
  · cases e
theorem lt_of_at {α : Type} {xs : List α} {j : Nat} {x : α} (e : xs[j]? = some x) : j < xs.length := (List.getElem?_eq_some_iff.mp e).1
variable {i : Nat} {od : Obj} {kvs : List (Key × W)} {kus : List (Key × V)}
theorem its_dkeys (hi : i < h.nx) (eH : H (m i) = some (.frz od (.dK kus))) (a : kvs.map (·.1) = kus.map (·.1)) (r : RWs G m h.nx H (kvs.map (·.2)) (kus.map (·.2))) : ItS G m h.nx H (srcQ kvs fun p => kW p.1) (Itk (m i) od kus) := by
  intro m' h' H' j rh old le tk kf
  have e' := kf i hi _ _ eH
  have r' := r.mono old le tk
  refine ⟨fun e => ⟨e', srcQ_end a e⟩, fun w e => ?_⟩
  obtain ⟨p, ep, rfl⟩ := srcQ_at e
  obtain ⟨u, eu, ru⟩ := kv_at a r' ep
  refine ⟨⟨e', lt_of_at eu⟩, fun x H'' ⟨e1, k, v, e2, e3⟩ => ?_⟩
  subst e1; subst e3
  rw [eu] at e2; cases e2
  exact ⟨rh, Mv.refl, kW_rw _⟩
end
section
variable {X : Cx} {B : Bx} {a b o e tg : Expr} {fe f : FE} {pos p apos cpos tpos : Pos} {elts : List Expr} {kk : Nat}
def iV3 (f : FE) : FI := fun ρ h => (f ρ h).bind fun w h1 => match w with
  | .tup ws => .ok (srcT ws) h1
  | .ref n => match lockW h1 n with
    | some (kvs, h2) => .ok (srcQ kvs fun p => kW p.1) h2
    | none => match rdL h1 n with
      | some _ => .ok (srcL n) h1
      | none => .no
  | _ => .no
theorem pi_any {l : Expr} {tl : TE} (hl : PE X l tl) : PI X tg l (fun σ H R => tl σ H fun x H1 => ∃ a, x = .ref a ∧ (((∃ xs, SqL X.K H1 a xs) ∧ R (Itl X.K a) H1) ∨ ((∃ xs, SqT X.K H1 a xs) ∧ R (Itt X.K a) H1) ∨ (∃ od kus, H1 a = some (.frz od (.dK kus)) ∧ R (Itk a od kus) H1) ∨
    ∃ kus, H1 a = some (.dK kus) ∧ ∀ od, R (Itk a od kus) (upd H1 a (.frz od (.dK kus))))) := by
  refine ⟨fun pins s σ H R I h => ?_⟩
  refine thn (hl.run pins s σ H _ I h) fun v s1 ⟨x, H1, I1, r1, q1⟩ => ?_
  obtain ⟨a, e, q⟩ := q1
  subst e
  cases r1
  have dk : ∀ {H2 : Hp} {od : Obj} {kus : List (Key × V)}, Inv X pins σ H2 s1 → H2 a = some (.frz od (.dK kus)) → R (Itk a od kus) H2 → wpAny (model X.prog X.w) X.A (pyIter (.ref a)) (PIE X pins σ tg R) X.xe s1 := fun I2 hd q => by
    obtain ⟨hs, hgd, hx, es, ep, vs, hdt, hsz, kv, hm⟩ := I2.frzK hd
    exact iter_keys hs hgd hx hdt (pi_one I2 _ (turn_keys s1.heap.objs.size hdt) ⟨_, Heap.get?_push_size _ rfl, rfl, by rw [hsz]; rfl⟩ q)
  rcases q with ⟨⟨xs, hq⟩, q⟩ | ⟨⟨xs, hq⟩, q⟩ | ⟨od, kus, hq, q⟩ | ⟨kus, hq, q⟩
  · obtain ⟨its, rv, p, hz⟩ := I1.list hq
    refine wpAny_pyIter_list p.isList ?_
    refine ⟨s1.heap.objs.size, [s1.heap.objs.size], _, _, H1, rfl, I1.kept (t' := s1.toks) fun b o e => Heap.get?_push_of_some _ e, turn_list a _, ⟨_, Heap.get?_push_size _ rfl, rfl, rfl⟩, fun b hb => ?_, q⟩
    have e : b = s1.heap.objs.size := by simpa using hb
    subst e
    exact I1.fpOk (Nat.le_refl _) (I1.hok.fresh (Nat.le_refl _))
  · obtain ⟨its, rv, p, hz⟩ := I1.tuple hq
    refine wpAny_pyIter_tuple (show s1.heap.IsTuple a its.toArray from p) ?_
    refine ⟨s1.heap.objs.size, [s1.heap.objs.size], _, _, H1, rfl, I1.kept (t' := s1.toks) fun b o e => Heap.get?_push_of_some _ e, turn_tuple a _, ⟨_, Heap.get?_push_size _ rfl, rfl, rfl⟩, fun b hb => ?_, q⟩
    have e : b = s1.heap.objs.size := by simpa using hb
    subst e
    exact I1.fpOk (Nat.le_refl _) (I1.hok.fresh (Nat.le_refl _))
  · exact dk I1 hq q
  · obtain ⟨od, I2⟩ := I1.lock hq trivial
    exact dk I2 upd_same (q od)
theorem si_v3 (hK : X.K = B.G.K) (h : SE X B e f) : SI X B tg e (iV3 f) :=
  pi_imp (pi_any h) fun σ H R ⟨m, h, ρ, s, o⟩ => ⟨m, h, ρ, s, (Out.bind s.rh o).mono fun v H1 ⟨w, m1, h1, r1, v1, q1, o1⟩ => by
    cases w <;> try exact o1.elim
    · rename_i ws
      obtain ⟨a, xs, rfl, sq, q⟩ := rw_tup q1
      exact ⟨a, rfl, .inr (.inl ⟨⟨xs, by rw [hK]; exact sq⟩, by rw [hK]; exact o1 m1 H1 _ r1 Mv.refl (its_tup sq q)⟩)⟩
    · rename_i n
      obtain ⟨rfl, hn⟩ := rw_ref q1
      dsimp only at o1
      cases c : lockW h1 n with
      | some t =>
        obtain ⟨kvs, h2⟩ := t
        rw [c] at o1
        rcases lock_ok r1 hn c with ⟨kus, eH, k⟩ | ⟨rfl, od, kus, eH, k1, k2⟩
        · refine ⟨_, rfl, .inr (.inr (.inr ⟨kus, eH, fun od => ?_⟩))⟩
          obtain ⟨r2, v2, hn2, k1, k2⟩ := k od
          exact o1 m1 _ _ r2 v2 (its_dkeys hn2 upd_same k1 k2)
        · exact ⟨_, rfl, .inr (.inr (.inl ⟨od, kus, eH, o1 m1 _ _ r1 Mv.refl (its_dkeys hn eH k1 k2)⟩))⟩
      | none =>
        rw [c] at o1
        dsimp only at o1
        split at o1
        · rename_i ws ew
          obtain ⟨xs, sq, q⟩ := r1.rd hn ew
          exact ⟨_, rfl, .inl ⟨⟨xs, by rw [hK]; exact sq⟩, by rw [hK]; exact o1 m1 H1 _ r1 Mv.refl (its_lst hn)⟩⟩
        · exact o1.elim⟩
end
def unlk (h0 : Hpe) : List Nat → Hpe → Hpe
  | [], h => h
  | n :: r, h => unlk h0 r (match h0.get n, h.get n with
    | some (.dk _), some (.fd kvs) => bif Nat.blt n h0.nx then h.set n (.dk kvs) else h
    | some (.dn _), some (.fn kvs) => bif Nat.blt n h0.nx then h.set n (.dn kvs) else h
    | _, _ => h)
def unl (h0 h : Hpe) : Hpe := match h0.lk with
  | [] => { unlk h0 (h.lk.take (h.lk.length - h0.lk.length)) h with lk := [] }
  | n :: r => { unlk h0 (h.lk.take (h.lk.length - h0.lk.length)) h with lk := n :: r }
theorem unl_eq (h0 h : Hpe) : unl h0 h = { unlk h0 (h.lk.take (h.lk.length - h0.lk.length)) h with lk := h0.lk } := by
  unfold unl
  split <;> rename_i e <;> rw [e]
def sUn (f : FS) : FS := fun ρ h => match f ρ h with
  | .nx ρ' h' => .nx ρ' (unl h h')
  | .rt w h' => .rt w (unl h h')
  | r => r
def Ul (X : Cx) (H H2 : Hp) : Prop := ∀ pins σ s, Inv X pins σ H s → Inv X pins σ H2 s
section
variable {G : GC} {m m' : Nat → Addr} {h h' : Hpe} {H H' : Hp}
theorem RH.unlock (r : RH G m h H) {i : Nat} (hi : i < h.nx) {kvs : List (Key × W)} (e : h.get i = some (.fd kvs)) :
    ∃ od kus, H (m i) = some (.frz od (.dK kus)) ∧ TupK H (upd H (m i) (.dK kus)) ∧ RH G m (h.set i (.dk kvs)) (upd H (m i) (.dK kus)) := by
  obtain ⟨o0, ho0, e0, eH, r0⟩ := r.obj i hi
  rw [e] at e0; cases e0
  cases r0 with
  | @fd od _ kus a b =>
    have tk : TupK H (upd H (m i) (.dK kus)) := fun p xs q => by
      rcases q with q | ⟨ob, q⟩
      · exact .inl (by rw [upd_ne (fun z : p = m i => by rw [z, eH] at q; cases q)]; exact q)
      · exact .inr ⟨ob, by rw [upd_ne (fun z : p = m i => by rw [z, eH] at q; cases q)]; exact q⟩
    refine ⟨od, kus, eH, tk, r.sz, r.inj, fun j hj => ?_, fun P hP => ?_, fun P hP => ?_⟩
    · by_cases c : j = i
      · subst c
        have hsz := r.sz
        exact ⟨.dk kvs, .dK kus, put_same 41 h.t j (.dk kvs) (by omega), upd_same, .dk a (b.mono (fun _ _ => rfl) (Nat.le_refl _) tk)⟩
      · obtain ⟨o', ho', q1, q2, q3⟩ := r.obj j hj
        refine ⟨o', ho', (put_ne 41 h.t i j (.dk kvs) c).trans q1, ?_, q3.mono (fun _ _ => rfl) (Nat.le_refl _) tk⟩
        rw [upd_ne (fun z : m j = m i => c (r.inj j i hj hi z))]; exact q2
    · obtain ⟨ps, e, t⟩ := r.tab P hP
      exact ⟨ps, by rw [upd_ne (fun z : P = m i => by rw [z, eH] at e; cases e)]; exact e, t⟩
    · exact (r.ltab P hP).keep (fun ps e => by rw [upd_ne (fun z : P = m i => by rw [z, eH] at e; cases e)]; exact e) fun b q e nb => ⟨by rw [upd_ne (fun z : b = m i => nb i hi z.symm)]; exact e, nb⟩
theorem RH.unlockN (r : RH G m h H) {i : Nat} (hi : i < h.nx) {kvs : List (W × W)} (e : h.get i = some (.fn kvs)) :
    ∃ od xs, H (m i) = some (.frz od (dnO G.prog G.wo (m i) xs)) ∧ TupK H (upd H (m i) (dnO G.prog G.wo (m i) xs)) ∧ RH G m (h.set i (.dn kvs)) (upd H (m i) (dnO G.prog G.wo (m i) xs)) := by
  obtain ⟨o0, ho0, e0, eH, r0⟩ := r.obj i hi
  rw [e] at e0; cases e0
  cases r0 with
  | @fn od _ xs a b c d =>
    have tk : TupK H (upd H (m i) (dnO G.prog G.wo (m i) xs)) := fun p ys q => by
      rcases q with q | ⟨ob, q⟩
      · exact .inl (by rw [upd_ne (fun z : p = m i => by rw [z, eH] at q; cases q)]; exact q)
      · refine .inr ⟨ob, ?_⟩
        rw [upd_ne (fun z : p = m i => by
          rw [z, eH] at q
          have q' : HO.frz od (HO.ext (DnP G.prog G.wo (m i) xs)) = HO.frz ob (.tup ys) := Option.some.inj q
          cases q')]
        exact q
    refine ⟨od, xs, eH, tk, r.sz, r.inj, fun j hj => ?_, fun P hP => ?_, fun P hP => ?_⟩
    · by_cases cc : j = i
      · subst cc
        have hsz := r.sz
        exact ⟨.dn kvs, _, put_same 41 h.t j (.dn kvs) (by omega), upd_same, .dn a b (c.mono (fun _ _ => rfl) (Nat.le_refl _) tk) (d.mono (fun _ _ => rfl) (Nat.le_refl _) tk)⟩
      · obtain ⟨o', ho', q1, q2, q3⟩ := r.obj j hj
        refine ⟨o', ho', (put_ne 41 h.t i j (.dn kvs) cc).trans q1, ?_, q3.mono (fun _ _ => rfl) (Nat.le_refl _) tk⟩
        rw [upd_ne (fun z : m j = m i => cc (r.inj j i hj hi z))]; exact q2
    · obtain ⟨ps, e, t⟩ := r.tab P hP
      exact ⟨ps, by rw [upd_ne (fun z : P = m i => by rw [z, eH] at e; cases e)]; exact e, t⟩
    · exact (r.ltab P hP).keep (fun ps e => by rw [upd_ne (fun z : P = m i => by rw [z, eH] at e; cases e)]; exact e) fun b q e nb => ⟨by rw [upd_ne (fun z : b = m i => nb i hi z.symm)]; exact e, nb⟩
theorem unlk_ok {X : Cx} {pins : List (Addr × Obj)} {σ : L2.St} {s : Shared} (I : Inv X pins σ H s) (rh : RH G m h H) : ∀ (l : List Nat) (h' : Hpe) (H' : Hp), RH G m' h' H' → Mv m h.nx H m' h'.nx H' →
    ∃ H2, Ul X H' H2 ∧ RH G m' (unlk h l h') H2 ∧ (unlk h l h').nx = h'.nx ∧ Mv m h.nx H m' h'.nx H2 ∧ TupK H' H2
  | [], h', H', r', v => ⟨H', fun _ _ _ z => z, r', rfl, v, .refl⟩
  | n :: l, h', H', r', v => by
    have stay : ∃ H2, Ul X H' H2 ∧ RH G m' (unlk h l h') H2 ∧ (unlk h l h').nx = h'.nx ∧ Mv m h.nx H m' h'.nx H2 ∧ TupK H' H2 := unlk_ok I rh l h' H' r' v
    unfold unlk
    split
    · rename_i kv0 kvs e0 e1
      cases c : Nat.blt n h.nx with
      | false => exact stay
      | true =>
        have hn : n < h.nx := Nat.le_of_ble_eq_true c
        have hn' : n < h'.nx := Nat.lt_of_lt_of_le hn v.le
        obtain ⟨od, kus, eH, tk, r2⟩ := r'.unlock hn' e1
        obtain ⟨kus0, eH0, _⟩ := rh.dk hn (show rdK h n = some kv0 by unfold rdK; rw [e0])
        have em : m' n = m n := v.old n hn
        have u1 : Ul X H' (upd H' (m' n) (.dK kus)) := fun pins' σ' s' I' => I'.unlock eH (by rw [em]; exact I.nofrz eH0 trivial)
        have v2 : Mv m h.nx H m' h'.nx (upd H' (m' n) (.dK kus)) := by
          refine ⟨v.le, v.old, v.new, fun b o e hb => ?_, fun j hj ob u e => ?_⟩
          · rw [upd_ne (fun z : b = m' n => hb n hn (by rw [z, em]))]; exact v.kp b o e hb
          · rw [upd_ne (fun z : m j = m' n => by rw [z, em, eH0] at e; cases e)]; exact v.kf j hj ob u e
        obtain ⟨H2, u2, r3, e3, v3, t3⟩ := unlk_ok I rh l (h'.set n (.dk kvs)) _ r2 v2
        exact ⟨H2, fun pins' σ' s' I' => u2 _ _ _ (u1 _ _ _ I'), r3, e3, v3, TupK.trans tk t3⟩
    · rename_i kv0 kvs e0 e1
      cases c : Nat.blt n h.nx with
      | false => exact stay
      | true =>
        have hn : n < h.nx := Nat.le_of_ble_eq_true c
        have hn' : n < h'.nx := Nat.lt_of_lt_of_le hn v.le
        obtain ⟨od, xs, eH, tk, r2⟩ := r'.unlockN hn' e1
        obtain ⟨o0, ho0, eo, eH0, ro0⟩ := rh.obj n hn
        rw [e0] at eo; cases eo
        obtain ⟨xs0, eH1⟩ : ∃ xs0, H (m n) = some (dnO G.prog G.wo (m n) xs0) := by
          cases ro0 with
          | dn _ _ _ _ => exact ⟨_, eH0⟩
        have em : m' n = m n := v.old n hn
        have u1 : Ul X H' (upd H' (m' n) (dnO G.prog G.wo (m' n) xs)) := fun pins' σ' s' I' => I'.unlock eH (by rw [em]; exact I.nofrz eH1 trivial)
        have v2 : Mv m h.nx H m' h'.nx (upd H' (m' n) (dnO G.prog G.wo (m' n) xs)) := by
          refine ⟨v.le, v.old, v.new, fun b o e hb => ?_, fun j hj ob u e => ?_⟩
          · rw [upd_ne (fun z : b = m' n => hb n hn (by rw [z, em]))]; exact v.kp b o e hb
          · rw [upd_ne (fun z : m j = m' n => by rw [z, em, eH1] at e; cases (show HO.ext _ = HO.frz _ _ from Option.some.inj e))]; exact v.kf j hj ob u e
        obtain ⟨H2, u2, r3, e3, v3, t3⟩ := unlk_ok I rh l (h'.set n (.dn kvs)) _ r2 v2
        exact ⟨H2, fun pins' σ' s' I' => u2 _ _ _ (u1 _ _ _ I'), r3, e3, v3, TupK.trans tk t3⟩
    · exact stay
end
theorem ss_un {X : Cx} {B : Bx} {st : Stmt} {f : FS} (hs : SSt X B st f) : SSt X B st (sUn f) := by
  refine ⟨fun pins s σ H D I ⟨m, h, ρ, ss, o⟩ => ?_⟩
  refine wpAny_mono (hs.run pins s σ H { D with nx := fun σ' H' => ∃ H2, Ul X H' H2 ∧ D.nx σ' H2, rt := fun v H' => ∃ H2, Ul X H' H2 ∧ D.rt v H2 } I ⟨m, h, ρ, ss, ?_⟩) (fun fl s' q => ?_) fun _ _ z => z
  · simp only [sUn, unl_eq] at o
    cases c : f ρ h with
    | nx ρ' h' =>
      rw [c] at o
      intro m' H' σ' s' v
      obtain ⟨H2, u, r2, e2, v2, tk⟩ := unlk_ok I ss.rh (h'.lk.take (h'.lk.length - h.lk.length)) h' H' s'.rh v
      have en := e2
      refine ⟨H2, u, o m' H2 σ' ⟨r2.relk _, s'.len, fun i w e => ?_⟩ (by rw [en]; exact v2)⟩
      obtain ⟨x, e1, r⟩ := s'.sl i w e
      exact ⟨x, e1, by rw [en]; exact r.mono (fun _ _ => rfl) (Nat.le_refl _) tk⟩
    | rt w h' =>
      rw [c] at o
      intro m' H' x r v q
      obtain ⟨H2, u, r2, e2, v2, tk⟩ := unlk_ok I ss.rh (h'.lk.take (h'.lk.length - h.lk.length)) h' H' r v
      have en := e2
      exact ⟨H2, u, o m' H2 x (r2.relk _) (by rw [en]; exact v2) (by rw [en]; exact q.mono (fun _ _ => rfl) (Nat.le_refl _) tk)⟩
    | bk _ _ => rw [c] at o; exact o
    | ct _ _ => rw [c] at o; exact o
    | ex _ _ _ => rw [c] at o; exact o
    | no => rw [c] at o; exact o
  · cases fl with
    | next => obtain ⟨σ', H', I', H2, u, q⟩ := q; exact ⟨σ', H2, u _ _ _ I', q⟩
    | brk => exact q
    | cont => exact q
    | ret w => obtain ⟨x, σ', H', I', r, H2, u, q⟩ := q; exact ⟨x, σ', H2, u _ _ _ I', r, q⟩
end EV
namespace EV
open PySem PySem.Spec PyProof.Rows L2
section
variable {prog : Program} {w : World} {A : Around} {E : Value → Shared → Prop} {s : Shared} {a kS : Addr} {vs : List Value} {kz : List Int} {keys : Array Value} {e e1 : Nat} {P : PySem.Fin → Shared → Prop} {st : SortSt} {f : Value}
end
end EV
namespace EV
open PySem PySem.Spec PyProof.Rows L2
section
variable {X : Cx} {pins : List (Addr × Obj)} {σ : L2.St} {H : Hp} {s : Shared}
variable {e : Expr} {t : TE} {pos p p2 kpos : Pos}
end
end EV
namespace EV
open PySem PySem.Spec PyProof.Rows L2
section
variable {G : GC} {m : Nat → Addr} {n : Nat} {h : Hpe} {H : Hp}
end
section
variable {X : Cx} {B : Bx} {e : Expr} {fe : FE} {pos p p2 kpos : Pos}
end
end EV
namespace EV
open PySem PySem.Spec PyProof.Rows L2
end EV
namespace EV
open PySem PySem.Spec PyProof.Rows L2
def iOr (c : Rho → Hpe → Bool) (f1 f2 : FI) : FI := fun ρ h => bif c ρ h then f1 ρ h else f2 ρ h
theorem si_or {X : Cx} {B : Bx} {tg e : Expr} {f1 f2 : FI} (c : Rho → Hpe → Bool) (h1 : SI X B tg e f1) (h2 : SI X B tg e f2) : SI X B tg e (iOr c f1 f2) :=
  ⟨fun pins s σ H R I ⟨m, h, ρ, ss, o⟩ => by
    unfold iOr at o
    cases q : c ρ h with
    | true => rw [q] at o; exact h1.run pins s σ H R I ⟨m, h, ρ, ss, o⟩
    | false => rw [q] at o; exact h2.run pins s σ H R I ⟨m, h, ρ, ss, o⟩⟩
def tupR (fs : FA) : Rho → Hpe → Bool := fun ρ h => match fs ρ h with
  | .ok (.tup _ :: _) _ => true
  | _ => false
end EV
namespace EV
open PySem PySem.Spec PyProof.Rows L2
section
variable {X : Cx} {B : Bx} {e : Expr} {f : FE} {pos p2 : Pos} {lo hi st : Option Expr} {fl fh fs : FO}
end
end EV
namespace EV
open PySem PySem.Spec PyProof.Rows L2
section
variable {prog : Program} {w : World} {A : Around} {s : Shared} {I S : Addr} {fp wr : List Addr} {n : Nat} {P : Nat → Value → Prop} {St : Nat → Heap → Prop} {kf : Nat → Nat} {R : Result → Shared → Prop} {d : Value} {J : Heap → Prop}
end
end EV
namespace EV
open PySem PySem.Spec PyProof.Rows L2
section
variable {X : Cx} {pins : List (Addr × Obj)} {σ : L2.St} {H : Hp} {s : Shared}
variable {e de : Expr} {t td : TE} {pos p p2 kp1 kp2 : Pos}
end
end EV
namespace EV
open PySem PySem.Spec PyProof.Rows L2
section
variable {X : Cx} {o de : Expr} {p p2 pos apos mpos kp1 kp2 : Pos} {td t2 : TE}
end
end EV
namespace EV
open PySem PySem.Spec PyProof.Rows L2
section
variable {X : Cx} {o de : Expr} {p p2 pos apos mpos kp1 kp2 : Pos} {td t2 : TE}
end
end EV
namespace EV
open PySem PySem.Spec PyProof.Rows L2
section
variable {X : Cx} {B : Bx} {o de : Expr} {fe fd : FE} {p p2 pos apos mpos kp1 kp2 : Pos}
end
end EV
namespace EV
open PySem PySem.Spec PyProof.Rows L2 RT
section
variable {prog : Program} {w : World} {A : Around} {s : Shared}
end
end EV
namespace EV
open PySem PySem.Spec PyProof.Rows L2 RT
section
variable {X : Cx} {e : Expr} {te : TE} {p p2 pos pos2 : Pos}
end
end EV
namespace EV
open PySem PySem.Spec PyProof.Rows L2
section
variable {X : Cx}
end
end EV
namespace EV
open PySem PySem.Spec PyProof.Rows L2
section
variable {X : Cx} {B : Bx} {e : Expr} {fs : FA} {pos p : Pos}
end
end EV
namespace EV
open PySem PySem.Spec PyProof.Rows L2
section
variable {G : GC} {m : Nat → Addr} {n : Nat} {H : Hp}
end
section
variable {X : Cx} {G : GC} {pins : List (Addr × Obj)} {σ : L2.St} {H : Hp} {s : Shared} {m : Nat → Addr} {h hE : Hpe} {a : Addr} {ws caps : List W} {vs : List V} {zs : List Int} {f : Value} {Q : VK} {g : List W → Hpe → Res W}
theorem nocell {T : String} {xs : Array Value} {c : Nat} : ∀ v, (seqObj T xs c).data ≠ .cell v := fun v z => by cases z
end
end EV
namespace EV
open PySem PySem.Spec PyProof.Rows L2
structure SLv (X : Cx) (B : Bx) (e : Expr) (fl : Rho → Option W) : Prop where
  run : ∀ (pins : List (Addr × Obj)) (s : Shared) (σ : L2.St) (H : Hp) (m : Nat → Addr) (h : Hpe) (ρ : Rho) (w : W) (K : Value → Shared → Prop), Inv X pins σ H s → SS B.G B.cf m h ρ σ H → fl ρ = some w →
    (∀ (pins' : List (Addr × Obj)) (H' : Hp) (s' : Shared) (u : Value) (v : V), (∀ p ∈ pins, p ∈ pins') → Inv X pins' σ H' s' → RH B.G m h H' → Mv m h.nx H m h.nx H' → Kt B.G H H' → RelV v u → RM X B σ pins' m h.nx H' w v → K u s') →
    wpAny (model X.prog X.w) X.A (eval e X.env) K X.xe s
section
variable {X : Cx} {B : Bx} {lpos : Pos} {k : Nat}
theorem Room.two {lv : Nat} {A : Around} (r : Room (lv + 1) A) : Room lv A.in1.in1 := ⟨r.hd, by have := r.dp; show A.depth + 3 * lv + 5 < _; omega, by have := r.un; show A.units + 1 + 1 + 16 * lv + 200 < _; omega⟩
variable {lv : Nat} {T : Nat → List W → Hpe → Res W} {pins : List (Addr × Obj)} {σ : L2.St} {H : Hp} {m : Nat → Addr} {h : Hpe} {caps : List W} {v : V}
end
end EV
set_option maxHeartbeats 2000000
namespace EV
open PySem PySem.Spec PyProof.Rows L2
noncomputable def noRef (w : W) : Bool :=
  W.rec (motive_1 := fun _ => Bool) (motive_2 := fun _ => Bool) true (fun _ => true) (fun _ => true) (fun _ => true) (fun _ ih => ih) (fun _ => false) (fun _ => true) (fun _ _ _ => false) true (fun _ _ a b => cond a b false) w
noncomputable def noRefs (ws : List W) : Bool :=
  W.rec_1 (motive_1 := fun _ => Bool) (motive_2 := fun _ => Bool) true (fun _ => true) (fun _ => true) (fun _ => true) (fun _ ih => ih) (fun _ => false) (fun _ => true) (fun _ _ _ => false) true (fun _ _ a b => cond a b false) ws
theorem noRefs_c {w : W} {ws : List W} : noRefs (w :: ws) = cond (noRef w) (noRefs ws) false := rfl
theorem noRef_t {ws : List W} : noRef (.tup ws) = noRefs ws := rfl
section
variable {G : GC} {cf : CF} {m m' : Nat → Addr} {n n' : Nat} {H H' : Hp} {h h' : Hpe}
theorem RW.free {w : W} {v : V} (r : RW G m n H w v) : noRef w = true → RW G m' n' H w v :=
  RW.rec (motive_1 := fun w v _ => noRef w = true → RW G m' n' H w v) (motive_2 := fun ws vs _ => noRefs ws = true → RWs G m' n' H ws vs) (fun _ => .non) (fun b _ => .bl b) (fun i _ => .int i) (fun x _ => .str x) (fun a _ ih e => .tup a (ih e))
    (fun i hi e => by cases e) (fun e _ => .df e) (fun _ => .nil) (fun {w ws v vs} _ _ a b e => by
      rw [noRefs_c] at e
      cases c : noRef w with
      | false => rw [c] at e; cases e
      | true => rw [c] at e; exact .cons (a c) (b e)) r
theorem RWs.free : ∀ {ws : List W} {vs : List V}, RWs G m n H ws vs → noRefs ws = true → RWs G m' n' H ws vs
  | _, _, .nil, _ => .nil
  | w :: _, _, .cons a b, e => by
    rw [noRefs_c] at e
    cases c : noRef w with
    | false => rw [c] at e; cases e
    | true => rw [c] at e; exact .cons (a.free c) (b.free e)
theorem RCs.free : ∀ {ws : List W} {vs : List V}, RCs G cf m n H ws vs → noRefs ws = true → RCs G cf m' n' H ws vs
  | _, _, .nil, _ => .nil
  | w :: _, _, .cons a b, e => by
    rw [noRefs_c] at e
    cases c : noRef w with
    | false => rw [c] at e; cases e
    | true =>
      rw [c] at e
      refine .cons ?_ (b.free e)
      cases a with
      | rw a => exact .rw (a.free c)
      | clo _ _ => cases c
theorem heap_at (c : Addr) (o : Obj) (k : ∀ (a : Value) (b : Option Addr) (d : Array (Option Value)), o ≠ ⟨a, b, .freed, d⟩) : (⟨Array.replicate (c + 1) o, {}⟩ : Heap).get? c = some o := by
  unfold Heap.get?
  have e : (Array.replicate (c + 1) o)[c]? = some o := by rw [Array.getElem?_replicate]; exact if_pos (Nat.lt_succ_self c)
  simp only [e]
  obtain ⟨a, b, d, x⟩ := o
  cases d <;> first | rfl | exact absurd rfl (k _ _ _)
theorem RO.nocode {a : Addr} {o : Ob} {ho : HO} (r : RO G m n H a o ho) (q : Str) : ho ≠ LamX.CodeO a q := by
  intro z
  have hx : ∀ f : Heap → Prop, LamX.CodeO a q = HO.ext f → ∃ h : Heap, ∃ oc vs, h.get? a = some oc ∧ oc.data = .fields vs ∧ f h := by
    intro f e
    refine ⟨⟨Array.replicate (a + 1) (⟨.none, none, .fields #[.none, .str q default], #[]⟩ : Obj), {}⟩, ⟨.none, none, .fields #[.none, .str q default], #[]⟩, #[.none, .str q default], heap_at a _ (fun _ _ _ z => by cases z), rfl, ?_⟩
    unfold LamX.CodeO at e
    have e' := HO.ext.inj e
    rw [← e']
    exact ⟨_, _, default, heap_at a _ (fun _ _ _ z => by cases z), rfl, rfl⟩
  have nc : ∀ {C : Addr} {d : Option Addr}, erO a C d = LamX.CodeO a q → False := fun {C d} z => by
    unfold LamX.CodeO erO at z
    have z' := HO.ext.inj z
    have t : (fun h : Heap => ∃ oc vs t, h.get? a = some oc ∧ oc.data = .fields vs ∧ vs[1]? = some (.str q t)) (⟨Array.replicate (a + 1) (⟨.none, none, .fields #[.none, .str q default], #[]⟩ : Obj), {}⟩ : Heap) := ⟨_, _, default, heap_at a _ (fun _ _ _ z => by cases z), rfl, rfl⟩
    rw [← z'] at t
    obtain ⟨oe, e1, e2, _⟩ := t
    rw [heap_at a _ (fun _ _ _ z => by cases z)] at e1
    cases e1
    cases e2
  cases r with
  | dn _ _ _ _ =>
    obtain ⟨h, oc, vs, e1, e2, _, _, _, _, o, es, ep, e3, _, e4, _⟩ := hx _ z.symm
    rw [e1] at e3; cases e3; rw [e2] at e4; cases e4
  | st _ _ _ =>
    obtain ⟨h, oc, vs, e1, e2, l', es, ep, t, pm, R⟩ := hx _ z.symm
    obtain ⟨o, e3, _, e4⟩ := R.ob
    rw [e1] at e3; cases e3; rw [e2] at e4; cases e4
  | si _ =>
    obtain ⟨h, oc, vs, e1, e2, R⟩ := hx _ z.symm
    obtain ⟨o, _, _, _, e3, _, e4, _⟩ := R
    rw [e1] at e3; cases e3; rw [e2] at e4; cases e4
  | er0 _ => exact nc z
  | er1 _ _ => exact nc z
  | xo =>
    unfold LamX.CodeO dO at z
    have z' := HO.ext.inj z
    have t : (fun h : Heap => ∃ o : Obj, h.get? a = some o) (⟨Array.replicate (a + 1) (⟨.none, none, .dict #[], #[]⟩ : Obj), {}⟩ : Heap) := ⟨_, heap_at a _ (fun _ _ _ z => by cases z)⟩
    rw [z'] at t
    obtain ⟨oc, vs, t2, e1, e2, _⟩ := t
    rw [heap_at a _ (fun _ _ _ z => by cases z)] at e1
    cases e1
    cases e2
  | _ => unfold LamX.CodeO at z; cases z
theorem RH.none (r : RH G m h H) : RH G m Hpe.nil H where
  sz := Nat.zero_le _
  inj := fun i j hi => absurd hi (Nat.not_lt_zero _)
  obj := fun i hi => absurd hi (Nat.not_lt_zero _)
  tab := r.tab
  ltab := fun P hP => let ⟨ps, a, b, c⟩ := r.ltab P hP; ⟨ps, a, b, fun pos cv e => let ⟨d, e1, e2, _⟩ := c pos cv e; ⟨d, e1, e2, fun i hi => absurd hi (Nat.not_lt_zero _)⟩⟩
theorem Mv.stay0 (r : RH G m h H) (mv : Mv m Hpe.nil.nx H m' n' H') {i : Nat} (hi : i < h.nx) {ho : HO} (e : H (m i) = some ho) : H' (m i) = some ho := by
  obtain ⟨o, ho', _, e1, ro⟩ := r.obj i hi
  rw [e] at e1; cases e1
  exact mv.stay e (fun j hj => absurd hj (Nat.not_lt_zero _)) ro.notup.2.2
theorem RH.back (r : RH G m h H) (r' : RH G m' h' H') (mv : Mv m Hpe.nil.nx H m' h'.nx H') : RH G m h H' where
  sz := r.sz
  inj := r.inj
  obj := fun i hi => by
    obtain ⟨o, ho, e1, e2, ro⟩ := r.obj i hi
    exact ⟨o, ho, e1, mv.stay0 r hi e2, ro.mono (fun _ _ => rfl) (Nat.le_refl _) (mv.tupk r.none)⟩
  tab := r'.tab
  ltab := fun P hP => by
    obtain ⟨ps, a, b, c⟩ := r'.ltab P hP
    refine ⟨ps, a, b, fun pos cv e => ?_⟩
    obtain ⟨d, e1, e2, _⟩ := c pos cv e
    refine ⟨d, e1, e2, fun i hi z => ?_⟩
    obtain ⟨o, ho, _, e3, ro⟩ := r.obj i hi
    have e4 := mv.stay0 r hi e3
    rw [z, e2] at e4
    cases e4
    rw [z] at ro
    exact ro.nocode _ rfl
theorem Mv.back (r : RH G m h H) (mv : Mv m Hpe.nil.nx H m' n' H') : Mv m h.nx H m h.nx H' where
  le := Nat.le_refl _
  old := fun _ _ => rfl
  new := fun i a b => absurd b (by omega)
  kp := fun b o e _ => mv.kp b o e fun i hi => absurd hi (Nat.not_lt_zero _)
  kf := fun i hi ob u e => mv.stay0 r hi e
def frm (g : List W → Hpe → Res W) : List W → Hpe → Res W := fun ws h => bif noRefs ws then
    (match g ws Hpe.nil with
    | .ok w _ => bif noRef w then .ok w h else g ws h
    | .ex x _ => bif noRefs (x.fs.map (·.2)) then .ex x h else g ws h
    | .no => .no)
  else g ws h
theorem FnE.frm {P : Program} {w : World} {K : PySem.W.Frag} {mg : Str → Option Value} {base : Heap} {k : Nat} {f : Addr} {fd : FuncData} {ps : List Str} {cl : Cls} {g : List W → Hpe → Res W} (F : FnE P w K mg base k f fd ps G cl g) : FnE P w K mg base k f fd ps G cl (frm g) := by
  refine ⟨fun A outer s H args us vs Q E hr e0 hb r ⟨m, h, ws, rh, rs, e, o⟩ => ?_⟩
  unfold EV.frm at o
  cases c : noRefs ws with
  | false => rw [c] at o; exact F.run A outer s H args us vs Q E hr e0 hb r ⟨m, h, ws, rh, rs, e, o⟩
  | true =>
    rw [c] at o
    simp only [cond_true] at o
    cases q : g ws Hpe.nil with
    | ok w' h' =>
      simp only [q] at o
      cases d : noRef w' with
      | false => rw [d] at o; exact F.run A outer s H args us vs Q E hr e0 hb r ⟨m, h, ws, rh, rs, e, o⟩
      | true =>
        rw [d] at o
        exact F.run A outer s H args us vs Q E hr e0 hb r ⟨m, Hpe.nil, ws, rh.none, rs.free c, e, by rw [q]; exact fun m' H' v rh' mv rw => o m H' v (rh.back rh' mv) (mv.back rh) (rw.free d)⟩
    | ex x h' =>
      simp only [q] at o
      cases d : noRefs (x.fs.map (·.2)) with
      | false => rw [d] at o; exact F.run A outer s H args us vs Q E hr e0 hb r ⟨m, h, ws, rh, rs, e, o⟩
      | true =>
        rw [d] at o
        refine F.run A outer s H args us vs Q E hr e0 hb r ⟨m, Hpe.nil, ws, rh.none, rs.free c, e, ?_⟩
        rw [q]
        refine fun m' H' c' d' rh' mv ⟨x1, x2⟩ => o m H' c' d' (rh.back rh' mv) (mv.back rh) ⟨x1, ?_⟩
        rcases x2 with x2 | ⟨dx, kus, y1, y2, y3, y4⟩
        · exact .inl x2
        · exact .inr ⟨dx, kus, y1, y2, y3, y4.free d⟩
    | no => simp only [q] at o; exact o.elim
end
def lEqN : List Nat → List Nat → Bool
  | [], [] => true
  | x :: xs, y :: ys => Nat.beq x y && lEqN xs ys
  | _, _ => false
theorem lEqN_t : ∀ {xs ys : List Nat}, lEqN xs ys = true → xs = ys
  | [], [], _ => rfl
  | x :: xs, y :: ys, h => by
    simp only [lEqN, Bool.and_eq_true] at h
    rw [Nat.eq_of_beq_eq_true h.1, lEqN_t h.2]
  | [], _ :: _, h => by simp [lEqN] at h
  | _ :: _, [], h => by simp [lEqN] at h
def strE (a b : Str) : Bool := lEqN a.cps.toList b.cps.toList
theorem strE_t {a b : Str} (h : strE a b = true) : a = b := by
  have e := lEqN_t h
  cases a
  cases b
  exact congrArg _ (Array.toList_inj.mp e)
mutual
def kqW : W → W → Bool
  | .non, .non => true
  | .bl a, .bl b => a == b
  | .int a, .int b => a == b
  | .str a, .str b => strE a b
  | .tup a, .tup b => kqWs a b
  | .df a, .df b => Nat.beq a b
  | _, _ => false
def kqWs : List W → List W → Bool
  | [], [] => true
  | a :: x, b :: y => kqW a b && kqWs x y
  | _, _ => false
end
mutual
theorem kqW_t : ∀ {a b : W}, kqW a b = true → a = b
  | .non, .non, _ => rfl
  | .bl a, .bl b, h => by simp only [kqW, beq_iff_eq] at h; rw [h]
  | .int a, .int b, h => by simp only [kqW, beq_iff_eq] at h; rw [h]
  | .str a, .str b, h => by simp only [kqW] at h; rw [strE_t h]
  | .tup a, .tup b, h => congrArg _ (kqWs_t (by simpa only [kqW] using h))
  | .df a, .df b, h => by simp only [kqW] at h; rw [Nat.eq_of_beq_eq_true h]
  | .non, .bl _, h | .non, .int _, h | .non, .str _, h | .non, .tup _, h | .non, .ref _, h | .non, .df _, h | .non, .clo _ _, h => by simp [kqW] at h
  | .bl _, .non, h | .bl _, .int _, h | .bl _, .str _, h | .bl _, .tup _, h | .bl _, .ref _, h | .bl _, .df _, h | .bl _, .clo _ _, h => by simp [kqW] at h
  | .int _, .non, h | .int _, .bl _, h | .int _, .str _, h | .int _, .tup _, h | .int _, .ref _, h | .int _, .df _, h | .int _, .clo _ _, h => by simp [kqW] at h
  | .str _, .non, h | .str _, .bl _, h | .str _, .int _, h | .str _, .tup _, h | .str _, .ref _, h | .str _, .df _, h | .str _, .clo _ _, h => by simp [kqW] at h
  | .tup _, .non, h | .tup _, .bl _, h | .tup _, .int _, h | .tup _, .str _, h | .tup _, .ref _, h | .tup _, .df _, h | .tup _, .clo _ _, h => by simp [kqW] at h
  | .df _, .non, h | .df _, .bl _, h | .df _, .int _, h | .df _, .str _, h | .df _, .tup _, h | .df _, .ref _, h | .df _, .clo _ _, h => by simp [kqW] at h
  | .ref _, .non, h | .ref _, .bl _, h | .ref _, .int _, h | .ref _, .str _, h | .ref _, .tup _, h | .ref _, .ref _, h | .ref _, .df _, h | .ref _, .clo _ _, h => by simp [kqW] at h
  | .clo _ _, .non, h | .clo _ _, .bl _, h | .clo _ _, .int _, h | .clo _ _, .str _, h | .clo _ _, .tup _, h | .clo _ _, .ref _, h | .clo _ _, .df _, h | .clo _ _, .clo _ _, h => by simp [kqW] at h
theorem kqWs_t : ∀ {a b : List W}, kqWs a b = true → a = b
  | [], [], _ => rfl
  | _ :: _, _ :: _, h => by
    simp only [kqWs, Bool.and_eq_true] at h
    rw [kqW_t h.1, kqWs_t h.2]
  | [], _ :: _, h => by simp [kqWs] at h
  | _ :: _, [], h => by simp [kqWs] at h
end
def isW (r : Res W) (u : W) : Bool := match r with
  | .ok w _ => kqW w u
  | _ => false
theorem frm_kn {g : List W → Hpe → Res W} {ws : List W} {u : W} (a : noRefs ws = true) (b : noRef u = true) (e : isW (g ws Hpe.nil) u = true) (h : Hpe) : frm g ws h = .ok u h := by
  unfold frm
  rw [a]
  unfold isW at e
  split at e
  · rename_i w h' q
    cases kqW_t e
    rw [q]
    simp only [cond_true, b]
  · cases e
end EV
set_option maxHeartbeats 4000000
namespace EV
open PySem PySem.Spec PyProof.Rows L2
section
variable {X : Cx} {G : GC} {pins : List (Addr × Obj)} {σ : L2.St} {H : Hp} {s : Shared} {m : Nat → Addr} {h : Hpe}
end
section
variable {X : Cx} {B : Bx} {σ : L2.St} {pins : List (Addr × Obj)} {m : Nat → Addr} {H : Hp}
end
section
variable {G : GC} {cf : CF} {m : Nat → Addr} {h : Hpe} {ρ : Rho} {σ : L2.St} {H : Hp}
end
section
variable {X : Cx} {B : Bx} {e : Expr} {es : List Expr} {fl : FL} {name x : Str} {p pos cpos rpos : Pos} {i k n kk : Nat} {g : List W → Hpe → Res W} {t : CTx} {c P : Addr} {params : Arguments} {body : List Stmt} {scope : Scope} {js : List Nat} {ps : List Str}
end
end EV
namespace EV
open PySem PySem.Spec PyProof.Rows L2
section
variable {G : GC} {m m' : Nat → Addr} {h h' : Hpe} {H H' : Hp}
theorem DnR.mono {n n' : Nat} {kvs : List (W × W)} {xs : Dn} (r : DnR G m n H kvs xs) (q : ∀ i, i < n → m' i = m i) (l : n ≤ n') (t : TupK H H') : DnR G m' n' H' kvs xs := ⟨r.1, r.2.1, r.2.2.1.mono q l t, r.2.2.2.mono q l t⟩
variable {i : Nat} {od : Obj} {kvs : List (W × W)} {xs : Dn}
end
section
variable {X : Cx} {B : Bx} {e tg : Expr} {fe : FE} {te : TE} {apos cpos tpos : Pos} {elts : List Expr} {kk : Nat}
end
end EV
namespace EV
open PySem PySem.Spec PyProof.Rows L2 RZ
structure WalkP (prog : Program) (w : World) (A : Around) (I S : Addr) (fp wr : List Addr) (n : Nat) (P : Nat → Value → Value → Prop) (St : Nat → Heap → Prop) : Prop where
  off : S ∉ fp
  sub : ∀ b ∈ wr, b ∈ fp
  frame : ∀ i h h', St i h → (∀ b o, b ≠ S → h.get? b = some o → h'.get? b = some o) → St i h'
  item : ∀ (i : Nat) (s : Shared) (Q : Option Value → Shared → Prop) (E : Value → Shared → Prop), i < n → S < s.heap.objs.size → St i s.heap → (∀ h' tk T a b, s.heap.objs.size ≤ T → IsPair h' T a b → P i a b → St (i + 1) h' → (∀ c o, c ∉ wr → s.heap.get? c = some o → h'.get? c = some o) → Q (some (.ref T)) { s with heap := h', toks := tk }) → wpAny (model prog w) A (pyNext (.ref I)) Q E s
  done : ∀ (s : Shared) (Q : Option Value → Shared → Prop) (E : Value → Shared → Prop), St n s.heap → (∀ h' tk, (∀ c o, c ∉ wr → s.heap.get? c = some o → h'.get? c = some o) → Q none { s with heap := h', toks := tk }) → wpAny (model prog w) A (pyNext (.ref I)) Q E s
  self : ∀ (A' : Around) (i : Nat) (s : Shared) (Q : Value → Shared → Prop) (E : Value → Shared → Prop), St i s.heap → Q (.ref I) s → wpAny (model prog w) A' (pyIter (.ref I)) Q E s
structure Got (P : Nat → Value → Value → Prop) (lo : Addr) (h : Heap) (as : List Addr) : Prop where
  rise : as.Pairwise (· < ·)
  above : ∀ a ∈ as, lo ≤ a
  pairs : ∀ (j : Nat) (a : Addr), as[j]? = some a → ∃ x y, P j x y ∧ IsPair h a x y
theorem Got.keep {P : Nat → Value → Value → Prop} {lo : Addr} {h h' : Heap} {as : List Addr} (g : Got P lo h as) (k : ∀ a o, lo ≤ a → h.get? a = some o → h'.get? a = some o) : Got P lo h' as :=
  ⟨g.rise, g.above, fun j a hj => let ⟨x, y, p, e⟩ := g.pairs j a hj; ⟨x, y, p, k a _ (g.above a (List.mem_of_getElem? hj)) e⟩⟩
section
variable {prog : Program} {w : World} {A : Around} {s : Shared} {R : Result → Shared → Prop} {I S lo : Addr} {fp wr : List Addr} {n : Nat} {P : Nat → Value → Value → Prop} {St : Nat → Heap → Prop}
end
section
variable {prog : Program} {w : World} {A : Around} {s : Shared}
end
end EV
namespace EV
open PySem PySem.Spec PyProof.Rows L2 RZ
section
variable {G : GC} {m : Nat → Addr} {h : Hpe} {H H' : Hp}
theorem RH.ext (r : RH G m h H) (k : ∀ b o, H b = some o → H' b = some o) : RH G m h H' ∧ Mv m h.nx H m h.nx H' := by
  have tk : TupK H H' := fun a xs q => by
    rcases q with q | ⟨ob, q⟩
    · exact .inl (k _ _ q)
    · exact .inr ⟨ob, k _ _ q⟩
  refine ⟨⟨r.sz, r.inj, fun i hi => ?_, fun P hP => ?_, fun P hP => (r.ltab P hP).keep (fun _ e => k _ _ e) fun b q e nb => ⟨k _ _ e, nb⟩⟩, Nat.le_refl _, fun _ _ => rfl, fun i a b => absurd a (Nat.not_le_of_lt b), fun b o e _ => .inl (k _ _ e), fun i hi ob u e => k _ _ e⟩
  · obtain ⟨o, ho, e1, e2, ro⟩ := r.obj i hi
    exact ⟨o, ho, e1, k _ _ e2, ro.mono (fun _ _ => rfl) (Nat.le_refl _) tk⟩
  · obtain ⟨ps, e, t⟩ := r.tab P hP
    exact ⟨ps, k _ _ e, t⟩
end
section
variable {prog : Program} {w : World} {A : Around} {E : Value → Shared → Prop} {s : Shared} {z TI TO i1 i2 l1 l2 : Addr} {k : Nat} {xs ys : Array Value}
end
end EV
namespace EV
open PySem PySem.Spec PyProof.Rows L2 RZ DX
section
variable {G : GC} {m : Nat → Addr} {n : Nat} {H : Hp}
end
section
variable {X : Cx} {pins : List (Addr × Obj)} {σ : L2.St} {H : Hp} {s : Shared}
end
section
variable {X : Cx} {B : Bx} {a b c : Expr} {ta : TA} {fs : FA} {p p2 pos pos2 : Pos}
end
end EV
namespace EV
open PySem PySem.Spec PyProof.Rows L2 RZ DX PySem
section
variable {prog : Program} {w : World} {A : Around} {E : Value → Shared → Prop} {s : Shared} {e it l S : Addr} {items : Array Value}
end
section
variable {G : GC} {m : Nat → Addr} {n : Nat} {H : Hp}
end
section
variable {X : Cx} {B : Bx} {a c : Expr} {ta : TA} {fs : FA} {p p2 pos pos2 : Pos}
end
end EV
namespace EV
open PySem PySem.Spec PyProof.Rows L2
section
variable {G : GC} {m : Nat → Addr} {n : Nat} {H : Hp}
end
section
variable {X : Cx} {B : Bx} {e : Expr} {fs : FA} {p pos : Pos}
end
end EV
namespace EV
end EV
namespace EV
open PySem PySem.Spec PyProof.Rows L2 PySem.W
section
variable {X : Cx}
end
section
variable {X : Cx} {B : Bx} {e : Expr} {fs : FA} {pos p : Pos}
end
end EV
namespace EV
open PySem PySem.Spec PyProof.Rows L2 RZ
section
variable {prog : Program} {w : World} {A : Around} {E : Value → Shared → Prop} {s : Shared} {z TI TO i1 i2 l1 l2 : Addr} {k : Nat} {xs ys : Array Value}
end
end EV
namespace EV
open PySem PySem.Spec PyProof.Rows L2 RZ
def ZStL (z TI TO i1 i2 l1 l2 : Addr) (k : Nat) (h : Heap) : Prop := ZAny h z TI TO ∧ IsPair h TI (.ref i1) (.ref i2) ∧ (∃ a b, IsPair h TO a b) ∧ h.IsListIter i1 l1 k ∧ h.IsListIter i2 l2 k
section
variable {prog : Program} {w : World} {A : Around} {E : Value → Shared → Prop} {s : Shared} {z TI TO i1 i2 l1 l2 e : Addr} {k : Nat} {xs ys : Array Value}
theorem ZStL.at {h h' : Heap} (st : ZStL z TI TO i1 i2 l1 l2 k h) (kp : ∀ c, c = z ∨ c = TI ∨ c = TO ∨ c = i1 ∨ c = i2 → ∀ o, h.get? c = some o → h'.get? c = some o) : ZStL z TI TO i1 i2 l1 l2 k h' := by
  obtain ⟨⟨f0, fl, hf, hr⟩, h1, ⟨a, b, h2⟩, h3, h4⟩ := st
  exact ⟨⟨f0, fl, hf, kp z (.inl rfl) _ hr⟩, kp TI (.inr (.inl rfl)) _ h1, ⟨a, b, kp TO (.inr (.inr (.inl rfl))) _ h2⟩, h3.at fun o q => kp i1 (by simp) o q, h4.at fun o q => kp i2 (by simp) o q⟩
end
end EV
namespace EV
open PySem PySem.Spec PyProof.Rows L2 RZ
section
variable {X : Cx} {B : Bx} {c a b : Expr} {fs : FA} {p p2 pos pos2 tpos : Pos}
end
end EV
namespace EV
open PySem PySem.Spec PyProof.Rows L2 RZ DX
section
variable {prog : Program} {w : World} {A : Around} {E : Value → Shared → Prop} {s : Shared} {z TI TO i1 i2 l1 l2 : Addr} {k : Nat} {xs ys : Array Value}
end
section
variable {X : Cx} {B : Bx} {a b c : Expr} {ta : TA} {fs : FA} {p p2 pos pos2 : Pos}
end
end EV
namespace EV
open PySem PySem.Spec PyProof.Rows L2
section
variable {X : Cx} {pins : List (Addr × Obj)} {σ : L2.St} {H : Hp} {s : Shared}
end
section
variable {X : Cx} {B : Bx} {e : Expr} {fs : FA} {p pos : Pos}
end
end EV
namespace EV
open PySem PySem.Spec PyProof.Rows L2 RZ
def ItzM (K : PySem.W.Frag) (a b : Addr) : It :=
  ⟨fun i H => ∃ (xs ys : List V) (x y : V), SqL K H a xs ∧ SqT K H b ys ∧ xs[i]? = some x ∧ ys[i]? = some y,
    fun i H v H' => ∃ T x y, v = .ref T ∧ H T = none ∧ H' = upd H T (.tup [x, y]) ∧ (∀ xs, SqL K H a xs → xs[i]? = some x) ∧ ∀ ys, SqT K H b ys → ys[i]? = some y,
    fun i H => ∃ xs ys : List V, SqL K H a xs ∧ SqT K H b ys ∧ i ≤ xs.length ∧ i ≤ ys.length ∧ (i = xs.length ∨ i = ys.length)⟩
theorem turn_zipM {P : Program} {w : World} {K : PySem.W.Frag} {elts : List Expr} {kk : Nat} {tpos : Pos} {a b z TI TO i1 i2 : Addr} (S : ZipSep2 z TI TO i1 i2 [i1, a] [i2, b]) :
    Turn P w K (.Tuple elts kk tpos) (ItzM K a b) [z, TI, TO, i1, i2] z (fun i h => IsZip h z TI TO .none ∧ IsPair h TI (.ref i1) (.ref i2) ∧ (∃ x y, IsPair h TO x y) ∧ h.IsListIter i1 a i ∧ h.IsTupleIter i2 b i) where
  mem := List.mem_cons_self
  obj := fun i h ⟨hz, hTI, ⟨x, y, hTO⟩, ⟨o1, e1, _, d1⟩, ⟨o2, e2, _, d2⟩⟩ c hc => by
    have e' : c = z ∨ c = TI ∨ c = TO ∨ c = i1 ∨ c = i2 := by simpa using hc
    rcases e' with q | q | q | q | q
    · rw [q]; exact ⟨_, hz, fun v q => nomatch q⟩
    · rw [q]; exact ⟨_, hTI, fun v q => nomatch q⟩
    · rw [q]; exact ⟨_, hTO, fun v q => nomatch q⟩
    · rw [q]; exact ⟨o1, e1, fun v q => by rw [d1] at q; cases q⟩
    · rw [q]; exact ⟨o2, e2, fun v q => by rw [d2] at q; cases q⟩
  keep := fun i h h' ⟨hz, hTI, ⟨x, y, hTO⟩, h1, h2⟩ k => ⟨k z (by simp) _ hz, k TI (by simp) _ hTI, ⟨x, y, k TO (by simp) _ hTO⟩, h1.at fun o q => k i1 (by simp) o q, h2.at fun o q => k i2 (by simp) o q⟩
  item := by
    intro X hP hw hK hc i pins s σ H E I hf ⟨hz, hTI, ⟨x0, y0, hTO⟩, h1, h2⟩ ⟨us, vs, x, y, hqx, hqy, hx, hy⟩
    subst hP hw hK
    obtain ⟨its, rv, p, _⟩ := I.list hqx
    obtain ⟨its2, rv2, p2, _⟩ := I.tuple hqy
    obtain ⟨u, hu, ru⟩ := rv.get hx
    obtain ⟨u2, hu2, ru2⟩ := rv2.get hy
    have n1 : a ≠ i1 := fun e => by have := S.sep2_1; have := S.mem1; exact absurd p.isList (fun ⟨o, eo, co, _⟩ => by obtain ⟨o', eo', co', _⟩ := h1; rw [e, eo'] at eo; cases eo; rw [co'] at co; exact absurd co (by decide))
    have n2 : b ≠ i2 := fun e => by obtain ⟨o, eo, co, _⟩ := p2; obtain ⟨o', eo', co', _⟩ := h2; rw [e, eo'] at eo; cases eo; rw [co'] at co; exact absurd co (by decide)
    have lz : z < s.heap.objs.size := Heap.lt_size hz
    have l1 : i < its.toArray.size := by
      rw [List.size_toArray]; exact (List.getElem?_eq_some_iff.mp hu).1
    have l2 : i < its2.toArray.size := by
      rw [List.size_toArray]; exact (List.getElem?_eq_some_iff.mp hu2).1
    have D1 := Draws.list (prog := X.prog) (w := X.w) (A := X.A.in1) (show X.A.in1.handled = none from I.ok.hd hc) i1 a n1 its.toArray
    have D2 := Draws.tuple (prog := X.prog) (w := X.w) (A := X.A.in1) (show X.A.in1.handled = none from I.ok.hd hc) i2 b n2 its2.toArray
    refine wpAny_pyNext_zipD2_item S D1 D2 hz hTI hTO ⟨h1, p.isList⟩ ⟨h2, p2⟩ l1 l2 fun x1 x2 h' tk p1' p2' hz' hTO' st1 st2 hT hsz kp => ?_
    have eu : x1 = u := by
      have z1 : its.toArray[i]? = some x1 := p1'
      rw [List.getElem?_toArray, hu] at z1
      exact (Option.some.inj z1).symm
    have eu2 : x2 = u2 := by
      have z1 : its2.toArray[i]? = some x2 := p2'
      rw [List.getElem?_toArray, hu2] at z1
      exact (Option.some.inj z1).symm
    subst eu eu2
    refine ⟨_, rfl, wpAny_letOwnedTupleGo_zip (s := { s with heap := h', toks := tk }) hz' fun h3 hz3 sb => ?_⟩
    have hT3 : h3.get? s.heap.objs.size = some { cls := .type "tuple", data := .seq #[x1, x2] } := (sb.2 _ (Nat.ne_of_gt lz)).trans hT
    have new : ObjOk X.prog X.w (upd H s.heap.objs.size (.tup [x, y])) h3 s.heap.objs.size (.tup [x, y]) := ⟨by show 2 ≤ sizeLine; decide, [x1, x2], .cons ru (.cons ru2 .nil), ⟨_, hT3, rfl, _, rfl⟩⟩
    have J : Inv X pins σ (upd H s.heap.objs.size (.tup [x, y])) { s with heap := h3, toks := tk } :=
      I.turnedNew (t' := tk) (ch := [z, TI, TO, i1, i2]) (fun c o hb q => (sb.2 c (fun r => hb (by simp [r]))).trans (kp c o (fun r => hb (by simp [r])) (fun r => hb (by simp [r])) (fun r => hb (by simp [r])) (fun r => hb (by simp [r])) q)) hf (Nat.le_refl _) new
    have k3 : ∀ c o, c ≠ z → h'.get? c = some o → h3.get? c = some o := fun c o r q => (sb.2 c r).trans q
    have lt : ∀ c ∈ [z, TI, TO, i1, i2], c < s.heap.objs.size := fun c hc => by
      obtain ⟨o1, e1, _⟩ := h1
      obtain ⟨o2, e2, _⟩ := h2
      have e' : c = z ∨ c = TI ∨ c = TO ∨ c = i1 ∨ c = i2 := by simpa using hc
      rcases e' with q | q | q | q | q <;> rw [q]
      · exact lz
      · exact Heap.lt_size hTI
      · exact Heap.lt_size hTO
      · exact Heap.lt_size e1
      · exact Heap.lt_size e2
    refine ⟨.ref s.heap.objs.size, _, J, rfl, ⟨_, x, y, rfl, I.hok.fresh (Nat.le_refl _), rfl, fun l hl => by rw [I.list_inj hl hqx]; exact hx, fun l hl => by rw [I.tuple_inj hl hqy]; exact hy⟩, ⟨hz3, k3 _ _ S.TIz (kp _ _ S.TIz S.TITO S.TIi1 S.TIi2 hTI), ⟨_, _, k3 _ _ S.TOz hTO'⟩, st1.1.at fun o q => k3 _ o S.zi1.symm q, st2.1.at fun o q => k3 _ o S.zi2.symm q⟩, fun c hcm => ?_⟩
    rw [upd_ne (Nat.ne_of_lt (lt c hcm))]
    exact (hf c hcm).1
  done := by
    intro X hP hw hK hc i pins s σ H E I hf ⟨hz, hTI, ⟨x0, y0, hTO⟩, h1, h2⟩ ⟨us, vs, hqx, hqy, g1, g2, hend⟩
    subst hP hw hK
    obtain ⟨its, rv, p, _⟩ := I.list hqx
    obtain ⟨its2, rv2, p2, _⟩ := I.tuple hqy
    have n1 : a ≠ i1 := fun e => absurd p.isList (fun ⟨o, eo, co, _⟩ => by obtain ⟨o', eo', co', _⟩ := h1; rw [e, eo'] at eo; cases eo; rw [co'] at co; exact absurd co (by decide))
    have n2 : b ≠ i2 := fun e => by obtain ⟨o, eo, co, _⟩ := p2; obtain ⟨o', eo', co', _⟩ := h2; rw [e, eo'] at eo; cases eo; rw [co'] at co; exact absurd co (by decide)
    have l1 := rv.length
    have l2 := rv2.length
    have D1 := Draws.list (prog := X.prog) (w := X.w) (A := X.A.in1) (show X.A.in1.handled = none from I.ok.hd hc) i1 a n1 its.toArray
    have D2 := Draws.tuple (prog := X.prog) (w := X.w) (A := X.A.in1) (show X.A.in1.handled = none from I.ok.hd hc) i2 b n2 its2.toArray
    refine wpAny_pyNext_zipD2_end S D1 D2 hz hTI hTO ⟨h1, p.isList⟩ ⟨h2, p2⟩ (by rw [List.size_toArray]; omega) (by rw [List.size_toArray]; omega) (by rw [List.size_toArray, List.size_toArray]; omega) fun h' tk kp => ⟨rfl, ?_⟩
    exact I.turnedL (t' := tk) (ch := [z, TI, TO, i1, i2]) (fun c o hb q => kp c o (fun r => hb (by simp [r])) (fun r => hb (by simp [r])) (fun r => hb (by simp [r])) (fun r => hb (by simp [r])) q) hf
  self := fun A i s Q E st h => wpAny_pyIter_zip st.1 h
def iZM (K : PySem.W.Frag) (ta : TA) : TI := fun σ H R => ta σ H fun vs H1 => ∃ a b xs ys, vs = [.ref a, .ref b] ∧ SqL K H1 a xs ∧ SqT K H1 b ys ∧ R (ItzM K a b) H1
theorem pi_zipM {X : Cx} {e e2 : Expr} {ta : TA} {p pos tpos : Pos} {elts : List Expr} {kk : Nat} (hg : Gl X "zip") (hm : X.mg "zip" = none) (ha : PA X [e, e2] ta)
    (hs : starEach [e, e2] X.env = (false, eval e X.env) :: starEach [e2] X.env) (hpl : (backTo pos (starEach [e2] X.env)).any (·.1) = false) : PI X (.Tuple elts kk tpos) (.Call (.Name "zip" p) [e, e2] [] pos) (iZM X.K ta) := by
  refine ⟨fun pins s σ H R I h => ?_⟩
  refine Call_ (ld_blt I hg hm PyProof.Rows.boot_zip (PyProof.Rows.callWith_type1 (thn (ha.run pos pins s σ H _ I h) fun us s1 ⟨vs, H1, I1, r1, a, b, xs, ys, ex, hqx, hqy, q⟩ => ?_) hs hpl))
  subst ex
  cases r1 with
  | cons r rr =>
    cases rr with
    | cons r' rr =>
      cases rr
      cases r
      cases r'
      obtain ⟨its, rv, p1, _⟩ := I1.list hqx
      obtain ⟨its2, rv2, p2, _⟩ := I1.tuple hqy
      obtain ⟨o2, ho2, _⟩ := id p2
      refine zip_begins2 (begins_list a its.toArray) (begins_tuple b its2.toArray) p1.isList p2 fun h' hz hTI hTO h1 h2 hsz kp => wpAny_pyIter_zip hz ?_
      have I2 : Inv X pins σ H1 { s1 with heap := h' } := I1.kept (t' := s1.toks) kp
      refine ⟨s1.heap.objs.size + 4, [s1.heap.objs.size + 4, s1.heap.objs.size + 2, s1.heap.objs.size + 3, s1.heap.objs.size, s1.heap.objs.size + 1], _, _, H1, rfl, I2, turn_zipM (zip_sep2 (fp1 := [a]) (fp2 := [b]) (fun c hc => by rw [List.mem_singleton.mp hc]; exact p1.lt) fun c hc => by rw [List.mem_singleton.mp hc]; exact Heap.lt_size ho2), ⟨hz, hTI, ⟨_, _, hTO⟩, ⟨_, h1, rfl, rfl⟩, ⟨_, h2, rfl, rfl⟩⟩, fun c hc => ?_, q⟩
      have e' : c = s1.heap.objs.size + 4 ∨ c = s1.heap.objs.size + 2 ∨ c = s1.heap.objs.size + 3 ∨ c = s1.heap.objs.size ∨ c = s1.heap.objs.size + 1 := by simpa using hc
      have hle : s1.heap.objs.size ≤ c := by rcases e' with r | r | r | r | r <;> rw [r] <;> first | exact Nat.le_add_right _ _ | exact Nat.le_refl _
      exact I1.fpOk hle (I1.hok.fresh hle)
def srcZM (a : Nat) (ys : List W) : Src := fun h i => match rdL h a with
  | some xs => match nthR xs i, nthR ys i with
    | some x, some y => some (some (.tup [x, y]))
    | _, _ => bif (Nat.ble i xs.length && Nat.ble i ys.length) && (Nat.beq i xs.length || Nat.beq i ys.length) then some none else none
  | none => none
theorem its_zipM {G : GC} {m : Nat → Addr} {n k : Nat} {H : Hp} {b : Addr} {vs : List V} {ys : List W} (hk : k < n) (s2 : SqT G.K H b vs) (q2 : RWs G m n H ys vs) : ItS G m n H (srcZM k ys) (ItzM G.K (m k) b) := by
  intro m' h' H' j rh old le tk kf
  simp only [srcZM]
  have s2' := tk.seq s2
  have q2' := q2.mono old le tk
  cases e1 : rdL h' k with
  | none => exact ⟨fun z => (by cases z), fun w z => (by cases z)⟩
  | some xs =>
    obtain ⟨us, s1, q1⟩ := rh.rd (Nat.lt_of_lt_of_le hk le) e1
    rw [old k hk] at s1
    simp only [nthR_eq]
    have fin : ((bif (Nat.ble j xs.length && Nat.ble j ys.length) && (Nat.beq j xs.length || Nat.beq j ys.length) then some none else none : Option (Option W)) = some none → (ItzM G.K (m k) b).stop j H') ∧ ∀ w, (bif (Nat.ble j xs.length && Nat.ble j ys.length) && (Nat.beq j xs.length || Nat.beq j ys.length) then some none else none : Option (Option W)) = some (some w) → (ItzM G.K (m k) b).go j H' ∧ ∀ x H'', (ItzM G.K (m k) b).yld j H' x H'' → RH G m' h' H'' ∧ Mv m' h'.nx H' m' h'.nx H'' ∧ RW G m' h'.nx H'' w x := by
      cases c : ((Nat.ble j xs.length && Nat.ble j ys.length) && (Nat.beq j xs.length || Nat.beq j ys.length)) with
      | false => exact ⟨fun z => (by cases z), fun w z => (by cases z)⟩
      | true =>
        simp only [Bool.and_eq_true, Bool.or_eq_true] at c
        refine ⟨fun _ => ⟨us, vs, s1, s2', ?_, ?_, ?_⟩, fun w z => (by cases z)⟩
        · rw [← q1.len]; exact Nat.le_of_ble_eq_true c.1.1
        · rw [← q2.len]; exact Nat.le_of_ble_eq_true c.1.2
        · rw [← q1.len, ← q2.len]; exact c.2.imp Nat.eq_of_beq_eq_true Nat.eq_of_beq_eq_true
    cases c1 : xs[j]? with
    | none => exact fin
    | some x =>
      cases c2 : ys[j]? with
      | none => exact fin
      | some y =>
        obtain ⟨u, a1, b1⟩ := q1.get c1
        obtain ⟨v, a2, b2⟩ := q2'.get c2
        refine ⟨fun z => (by cases z), fun w z => ?_⟩
        cases z
        refine ⟨⟨us, vs, u, v, s1, s2', a1, a2⟩, fun x' H'' yl => ?_⟩
        obtain ⟨T, p, r, rfl, hT, rfl, f1, f2⟩ := yl
        have := f1 us s1; rw [a1] at this; cases this
        have := f2 vs s2'; rw [a2] at this; cases this
        exact pair_new rh hT b1 b2
section
variable {X : Cx} {B : Bx} {a b : Expr} {fs : FA} {p pos tpos : Pos}
def iZMf (fs : FA) : FI := fun ρ h => (fs ρ h).bind fun ws h1 => match ws with
  | [.ref i, .tup ys] => match rdL h1 i with
    | some _ => .ok (srcZM i ys) h1
    | none => .no
  | _ => .no
theorem si_zipM {elts : List Expr} {kk : Nat} (hK : X.K = B.G.K) (hg : Gl X "zip") (hm : X.mg "zip" = none) (ha : SA X B [a, b] fs) (hs : starEach [a, b] X.env = (false, eval a X.env) :: starEach [b] X.env) (hpl : (backTo pos (starEach [b] X.env)).any (·.1) = false) :
    SI X B (.Tuple elts kk tpos) (.Call (.Name "zip" p) [a, b] [] pos) (iZMf fs) :=
  pi_imp (pi_zipM hg hm ha hs hpl) fun σ H R ⟨m, h, ρ, s, o⟩ => ⟨m, h, ρ, s, (Out.bind s.rh o).mono fun vs H1 ⟨ws, m1, h1, r1, v1, q1, o1⟩ => by
    match ws, o1 with
    | [.ref i, .tup ys], o1 =>
      obtain ⟨v, u, rfl, ra, rb⟩ := rws_two q1
      obtain ⟨rfl, hi⟩ := rw_ref ra
      obtain ⟨b, vs, rfl, s2, z2⟩ := rw_tup rb
      dsimp only at o1
      cases e1 : rdL h1 i with
      | none => rw [e1] at o1; exact o1.elim
      | some xs =>
        rw [e1] at o1
        obtain ⟨us, s1, _⟩ := r1.rd hi e1
        exact ⟨_, b, us, vs, rfl, by rw [hK]; exact s1, by rw [hK]; exact s2, by rw [hK]; exact o1 m1 H1 _ r1 Mv.refl (its_zipM hi s2 z2)⟩⟩
def ltR (fs : FA) : Rho → Hpe → Bool := fun ρ h => match fs ρ h with
  | .ok [.ref _, .tup _] _ => true
  | _ => false
end
end EV
namespace EV
open PySem PySem.Spec PyProof.Rows L2
structure SVt (X : Cx) (B : Bx) (es : List Expr) (f : FL) : Prop where
  run : ∀ (pos : Pos) (pins : List (Addr × Obj)) (s : Shared) (σ : L2.St) (H : Hp) (m : Nat → Addr) (h : Hpe) (ρ : Rho) (ws : List W) (K : List Value → Shared → Prop), Inv X pins σ H s → SS B.G B.cf m h ρ σ H → f ρ h = some ws →
    (∀ (s' : Shared) (us : List Value) (vs : List V), Inv X pins σ H s' → Vals vs us → RCs B.G B.cf m h.nx H ws vs → K us s') → wpAny (model X.prog X.w) X.A (spliced (backTo pos (starEach es X.env))) K X.xe s
structure SVC (X : Cx) (B : Bx) (es : List Expr) (f : FA) : Prop where
  run : ∀ (pos : Pos) (pins : List (Addr × Obj)) (s : Shared) (σ : L2.St) (H : Hp) (m : Nat → Addr) (h : Hpe) (ρ : Rho) (K : List Value → Shared → Prop), Inv X pins σ H s → SS B.G B.cf m h ρ σ H →
    (match f ρ h with
      | .ok ws h' => ∀ (m' : Nat → Addr) (H' : Hp) (s' : Shared) (us : List Value) (vs : List V), Inv X pins σ H' s' → RH B.G m' h' H' → Mv m h.nx H m' h'.nx H' → Vals vs us → RCs B.G B.cf m' h'.nx H' ws vs → K us s'
      | .ex x h' => ∀ m' H' c d, RH B.G m' h' H' → Mv m h.nx H m' h'.nx H' → ExR B.G B.cl m' h'.nx H' x c d → B.W c d σ H'
      | .no => False) → wpAny (model X.prog X.w) X.A (spliced (backTo pos (starEach es X.env))) K X.xe s
section
variable {X : Cx} {B : Bx} {e : Expr} {es : List Expr} {f : FL} {fe : FE} {fs : FA} {x : Str} {p pos : Pos} {i k n : Nat} {g : List W → Hpe → Res W}
end
end EV
namespace EV
open PySem PySem.Spec PyProof.Rows L2
section
variable {X : Cx} {B : Bx} {o value e : Expr} {es : List Expr} {name x : Str} {pos tpos p : Pos} {fo fv : FE} {fs : FA} {fl : FL} {cs : List Nat} {i : Nat}
end
end EV
namespace EV
open PySem PySem.Spec PyProof.Rows L2
def tDet (σ0 : L2.St) (H0 : Hp) (v : V) : TE := fun σ H Q => σ = σ0 ∧ H = H0 ∧ Q v H0
abbrev FQ := Rho → Hpe → Option W
structure SQ (X : Cx) (B : Bx) (e : Expr) (q : FQ) : Prop where
  run : ∀ (m : Nat → Addr) (h : Hpe) (ρ : Rho) (σ : L2.St) (H : Hp) (w : W), SS B.G B.cf m h ρ σ H → q ρ h = some w → ∃ v, PE X e (tDet σ H v) ∧ RC B.G B.cf m h.nx H w v
section
variable {X : Cx} {B : Bx} {a b e : Expr} {es : List Expr} {f : FL} {q : FQ} {x name : Str} {pos p : Pos} {i : Nat} {cs : List Nat}
end
section
variable {X : Cx} {B : Bx} {es : List Expr} {fs : FA} {x : Str} {p : Pos} {i : Nat}
end
end EV
namespace EV
open PySem PySem.Spec PyProof.Rows L2
section
variable {X : Cx} {pins : List (Addr × Obj)} {σ : L2.St} {H : Hp} {s : Shared} {a b : Addr} {xs : Dn} {k : NestedKey} {A : Around} {E : Value → Shared → Prop} {od : Obj}
end
def rdF (h : Hpe) (n : Nat) : Option (List (W × W)) := match h.get n with
  | some (.fn kvs) => some kvs
  | _ => none
section
variable {X : Cx} {G : GC} {m : Nat → Addr} {h : Hpe} {H : Hp}
theorem RH.fn (r : RH G m h H) {i : Nat} {kvs : List (W × W)} (hi : i < h.nx) (e : rdF h i = some kvs) : ∃ od xs, H (m i) = some (.frz od (dnO G.prog G.wo (m i) xs)) ∧ DnR G m h.nx H kvs xs := by
  obtain ⟨o, ho, q1, q2, q3⟩ := r.obj i hi
  unfold rdF at e
  rw [q1] at e
  cases q3 with
  | fn a b c d => cases e; exact ⟨_, _, q2, a, b, c, d⟩
  | _ => cases e
end
section
variable {X : Cx} {B : Bx} {a b : Expr} {fa fb : FE} {pos : Pos}
end
section
variable {X : Cx}
end
section
variable {X : Cx} {B : Bx} {e : Expr} {fs : FA} {p pos : Pos}
end
end EV
namespace EV
open PySem PySem.Spec PyProof.Rows L2
section
variable {X : Cx} {pins : List (Addr × Obj)} {σ : L2.St} {H : Hp} {s : Shared}
end
section
variable {G : GC} {m : Nat → Addr} {n : Nat} {H : Hp}
end
section
variable {X : Cx} {B : Bx} {e : Expr} {fs : FA} {p pos : Pos}
end
end EV
namespace EV
open PySem PySem.Spec PyProof.Rows L2
section
variable {A : Around} {elt tg iter tg1 iter1 : Expr} {ifs ifs1 : List Expr} {scope : Scope} {pos : Pos} {it it1 acc : Value} {env : Env} {k : Result → Sem PySem.Fin} {g : Bool} {l : List Value} {p : Pos}
end
end EV
namespace EV
open PySem PySem.Spec PyProof.Rows L2
section
variable {prog : Program} {w : World} {A : Around} {elt tg iter tg1 iter1 : Expr} {ifs ifs1 : List Expr} {scope : Scope} {pos : Pos} {it : Value} {cenv : Env} {ι : Type}
end
end EV
namespace EV
open PySem PySem.Spec PyProof.Rows L2
section
variable {prog : Program} {w : World} {A : Around} {elt tg iter tg1 iter1 : Expr} {ifs ifs1 : List Expr} {scope : Scope} {pos : Pos} {it : Value} {cenv : Env} {ι : Type}
end
end EV
namespace EV
open PySem PySem.Spec PyProof.Rows L2 GxR
section
variable {M : Model} {A : Around} {E : Value → Shared → Prop} {s : Shared} {env : Env} {elt tg iter tg1 iter1 : Expr} {ifs ifs1 : List Expr} {scope : Scope} {cl : List (Str × Addr)} {pos : Pos} {Q : Value → Shared → Prop}
end
end EV
namespace EV
open PySem PySem.Spec PyProof.Rows L2 GxR
structure Ix2 where
  it : Addr
  fp : List Addr
  tn : Nat → Heap → Prop
  J : It
  W : Nat → Nat → Hp → Prop
  i : Nat
  sg : L2.St
  h : Heap
section
variable {Y : Cx} {tg tg1 elt iter iter1 : Expr} {ifs ifs1 : List Expr} {al : Bool} {wi1 : TI} {g g1 : TG} {tt tt1 : TT} {te : TE} {fp : List Addr} {it : Addr} {tn : Nat → Heap → Prop} {J : It} {W : Nat → Nat → Hp → Prop} {Q0 Q1 : Hp → Prop} {σ : L2.St} {vs vs1 : List Nat} {Fin Stop : Shared → Prop}
end
end EV
namespace EV
open PySem PySem.Spec PyProof.Rows L2 GxR
section
variable {X : Cx} {c P : Addr} {elt tg iter tg1 iter1 : Expr} {ifs ifs1 : List Expr} {scope : Scope} {own : List (Str × Nat)} {gpos : Pos} {wi wi1 : TI} {g g1 : TG} {tt tt1 : TT} {te : TE} {k : Nat} {vs1 : List Nat}
end
end EV
namespace EV
open PySem PySem.Spec PyProof.Rows L2 GxR
section
variable {X : Cx} {B : Bx} {tg tg1 elt iter iter1 : Expr} {ifs ifs1 : List Expr} {fe : FE} {ft ft1 : FT} {fi fi1 : FI} {g g1 : FG} {us us1 vs vs1 : List Nat} {c P : Addr} {scope : Scope} {own : List (Str × Nat)} {p pos gpos : Pos} {k : Nat}
end
end EV
namespace EV
open PySem PySem.Spec PyProof.Rows L2
section
variable {X : Cx} {pins : List (Addr × Obj)} {σ : L2.St} {H : Hp} {s : Shared} {a : Addr} {vs : List V}
end
section
variable {X : Cx} {o : Expr} {p pos apos mpos : Pos} {td : TE}
end
section
variable {X : Cx} {B : Bx} {o : Expr} {p pos apos mpos : Pos} {fo : FE}
end
end EV
namespace EV
open PySem PySem.Spec PyProof.Rows L2
section
variable {X : Cx} {B : Bx} {tg a b c : Expr} {fs : FA} {p : Pos}
end
end EV
namespace EV
open PySem PySem.Spec PyProof.Rows L2
section
variable {X : Cx} {B : Bx} {o : Expr} {to : TE} {fo : FE} {name : Str} {pos : Pos} {cs : List Nat}
end
end EV
namespace EV
open PySem PySem.Spec PyProof.Rows L2
section
variable {X : Cx} {B : Bx} {e : Expr} {es : List Expr} {fl : FL} {name x : Str} {p pos cpos rpos : Pos} {i k n kk : Nat} {g : List W → Hpe → Res W} {t : CTx} {c P : Addr} {params : Arguments} {body : List Stmt} {scope : Scope} {js : List Nat} {ps : List Str}
end
end EV
namespace EV
open PySem PySem.Spec PyProof.Rows L2
section
variable {X : Cx}
end
section
variable {X : Cx} {B : Bx} {e : Expr} {fs : FA} {p pos : Pos}
end
end EV
namespace EV
open PySem
theorem us0 {p : List Value → Prop} {us : List Value} (h : us.length = 0) (f : p []) : p us := by
  cases us with
  | nil => exact f
  | cons _ _ => cases h
theorem us1 {p : List Value → Prop} {us : List Value} (h : us.length = 1) (f : ∀ a0 : Value, p [a0]) : p us := by
  cases us with
  | nil => cases h
  | cons a us => exact us0 (p := fun us => p (a :: us)) (Nat.succ.inj h) (f a)
end EV
namespace EV
open PySem PySem.Spec PyProof.Rows L2
section
variable {prog : Program} {w : World} {A : Around} {E : Value → Shared → Prop} {s : Shared} {T : String} {r d : Addr} {n : Nat} {P : Nat → Value → Prop} {OK : Heap → Prop}
end
section
variable {X : Cx}
end
section
variable {X : Cx} {B : Bx} {e : Expr} {fs : FA} {pos p : Pos}
end
end EV
namespace EV
open PySem PySem.Spec PyProof.Rows L2
end EV
namespace EV
open PySem PySem.Spec PyProof.Rows L2
section
variable {X : Cx}
end
section
variable {X : Cx} {B : Bx} {e : Expr} {fs : FA} {pos p : Pos}
end
end EV
namespace EV
open PySem PySem.Spec PyProof.Rows L2 RZ
def ItzT (K : PySem.W.Frag) (a b : Addr) : It :=
  ⟨fun i H => ∃ (xs ys : List V) (x y : V), SqT K H a xs ∧ SqL K H b ys ∧ xs[i]? = some x ∧ ys[i]? = some y,
    fun i H v H' => ∃ T x y, v = .ref T ∧ H T = none ∧ H' = upd H T (.tup [x, y]) ∧ (∀ xs, SqT K H a xs → xs[i]? = some x) ∧ ∀ ys, SqL K H b ys → ys[i]? = some y,
    fun i H => ∃ xs ys : List V, SqT K H a xs ∧ SqL K H b ys ∧ i ≤ xs.length ∧ i ≤ ys.length ∧ (i = xs.length ∨ i = ys.length)⟩
section
variable {X : Cx} {B : Bx} {a b : Expr} {fs : FA} {p pos tpos : Pos}
end
end EV
namespace EV
open PySem PySem.Spec PyProof.Rows L2
abbrev gMd : W → W → Hpe → Res W := gI (fun _ j => decide (0 < j)) fun i j => i % j
abbrev gDv : W → W → Hpe → Res W := gI cDiv fun i j => i / j
def uTake : FS :=
    (sSeq (sIf (asB (e2 (gB0 fun i j => decide (j < i)) (e2 gIx2 (eV 0) (eK (.int 0))) (eK (.int 0)))) (sSeq (sAs (e2 gMd (eBl bInt (aC (e2 gIx2 (eV 0) (eK (.int 0))) aN)) (eV 1)) (gN 2))
      (sSeq (sAs (e2 gDv (e2 gIx2 (eV 0) (eK (.int 0))) (eV 1)) (gSb2 (eV 0) (eK (.int 0))))
      (sSeq (sRt (eV 2))
      sNil))) sNil)
      (sSeq (sAs (e2 gAdd (e2 gIx2 (eV 0) (eK (.int 2))) (eK (.int 1))) (gSb2 (eV 0) (eK (.int 2))))
      (sSeq (sAs (e2 gMd (eBl bInt (aC (e2 gMul (e2 gAdd (e2 gIx2 (eV 0) (eK (.int 1))) (e2 gMul (eK (.int 48271)) (e2 gIx2 (eV 0) (eK (.int 2))))) (e2 gAdd (eK (.int 39373)) (e2 gIx2 (eV 0) (eK (.int 2))))) aN)) (eK (.int 2147483647))) (gN 3))
      (sSeq (sAs (e2 gAdd (e2 gMd (eBl bInt (aC (eV 3) aN)) (eK (.int 40009))) (eK (.int 7))) (gN 4))
      (sSeq (sAs (e2 gMd (eBl bInt (aC (e2 gMul (e2 gAdd (e2 gAdd (eV 3) (e2 gIx2 (eV 0) (eK (.int 2)))) (e2 gDv (e2 gIx2 (eV 0) (eK (.int 1))) (eK (.int 1000003)))) (eV 4)) aN)) (eK (.int 2147483629))) (gN 5))
      (sSeq (sRt (e2 gMd (eBl bInt (aC (e2 gDv (e2 gMd (eBl bInt (aC (e2 gAdd (e2 gMul (eV 5) (eK (.int 48271))) (eV 3)) aN)) (eK (.int 2147483587))) (eK (.int 64))) aN)) (eV 1)))
      sNil))))))
def uCells : FS :=
    (sSeq (sAs (eOrT (eBl bLst3 (aC (eSl (eV 0) oN (oS (eV 1))) aN)) (eLst (aC (eK (.int 0)) aN))) (gN 2))
      (sSeq (sFor (iOr (tupR (aC (eSl (eV 0) (oS (eV 1)) (oS (eK (.int 63)))) aN)) (iET (aC (eSl (eV 0) (oS (eV 1)) (oS (eK (.int 63)))) aN)) (iEL (aC (eSl (eV 0) (oS (eV 1)) (oS (eK (.int 63)))) aN))) (gTL 2 (gsC (gN 3) (gsC (gN 4) gsN))) (sSeq (sAs (e2 gMd (eBl bInt (aC (eV 3) aN)) (eV 1)) (gN 5))
      (sSeq (sAs (e2 gAdd (e2 gIx2 (eV 2) (eV 5)) (e2 gMul (eV 4) (e2 gAdd (eV 3) (eK (.int 2))))) (gSb2 (eV 2) (eV 5)))
      sNil)))
      (sSeq (sRt (eV 2))
      sNil)))
def uBox (c : Int) : FS :=
  (sSeq (sAs (eIf (asB (e2 (gB0 fun i j => decide (i < j)) (eV 1) (eBl bLen3 (aC (eV 0) aN)))) (e2 gIx2 (eV 0) (eV 1)) (eK (.int 0))) (gN 2))
      (sSeq (sRt (eLst (aC (e2 gMul (eBl bAbs (aC (eV 2) aN)) (eBl bInt (aC (e2 (gB0 fun i j => decide (j ≤ i)) (eBl bAbs (aC (eV 2) aN)) (e2 (gI cPow fun i j => i ^ j.toNat) (eK (.int 10)) (eK (.int 18)))) aN))) (aC (e2 gAdd (e2 gAdd (e2 gMd (eBl bInt (aC (eV 2) aN)) (eK (.int 2305843009213693951))) (e2 gMul (eK (.int 39373)) (eV 1))) (eK (.int c))) (aC (eK (.int 0)) aN)))))
      sNil))
section
variable {h h1 h2 : Hpe} {n : Nat} {i j : Int} {ws : List W} {w : W} {ρ : Rho}
theorem md_ok (p : 0 < j) : gMd (.int i) (.int j) h = .ok (.int (i % j)) h := by
  show (bif decide (0 < j) then Res.ok (W.int (i % j)) h else .no) = _
  rw [decide_eq_true p]
  rfl
theorem dv_ok (p : 0 < j) (q : j < 1073741824) : gDv (.int i) (.int j) h = .ok (.int (i / j)) h := by
  show (bif cDiv i j then Res.ok (W.int (i / j)) h else .no) = _
  rw [show cDiv i j = true by unfold cDiv; rw [decide_eq_true p, decide_eq_true q]; rfl]
  rfl
theorem mul_R (p : -18446744073709551616 < j) (q : j < 18446744073709551616) : gMul (.int i) (.int j) h = .ok (.int (i * j)) h := by
  show (bif cMul i j then Res.ok (W.int (i * j)) h else .no) = _
  rw [show cMul i j = true by unfold cMul; rw [decide_eq_true p, decide_eq_true q]; simp]
  rfl
theorem mul_L (p : -18446744073709551616 < i) (q : i < 18446744073709551616) : gMul (.int i) (.int j) h = .ok (.int (i * j)) h := by
  show (bif cMul i j then Res.ok (W.int (i * j)) h else .no) = _
  rw [show cMul i j = true by unfold cMul; rw [decide_eq_true p, decide_eq_true q]; simp]
  rfl
theorem rdL_of (g : h.get n = some (.lst ws)) : rdL h n = some ws := by
  unfold rdL
  rw [g]
theorem ix_lst (g : h.get n = some (.lst ws)) (e : atI ws j = some w) : gIx2 (.ref n) (.int j) h = .ok w h := by
  have z : rdN h n = none := by unfold rdN; rw [g]
  have k : rdQ h n = none := by unfold rdQ; rw [g]
  have x : gIx (.ref n) (.int j) h = .ok w h := by
    unfold gIx
    dsimp only
    rw [rdL_of g]
    dsimp only
    rw [e]
  unfold gIx2
  dsimp only
  rw [z, k]
  exact x
theorem put_lst {l : Nat} (g : h.get n = some (.lst ws)) (e : ixN ws.length j = some l) : putO (.ref n) (.int j) w h = some (h.set n (.lst (ws.set l w))) := by
  have z : rdN h n = none := by unfold rdN; rw [g]
  have k : rdK h n = none := by unfold rdK; rw [g]
  have x : putL n (.int j) w h = some (h.set n (.lst (ws.set l w))) := by
    unfold putL
    dsimp only
    rw [g]
    dsimp only
    rw [e]
  unfold putO
  dsimp only
  rw [z, k]
  exact x
theorem set_get (o : Ob) (p : n + 1 < 2199023255552) : (h.set n o).get n = some o := put_same 41 h.t n o p
theorem set_old (o : Ob) {k : Nat} (p : k ≠ n) : (h.set n o).get k = h.get k := put_ne 41 h.t n k o p
theorem new_get (o : Ob) (p : h.nx + 1 < 2199023255552) : (h.new o).get h.nx = some o := put_same 41 h.t h.nx o p
theorem new_old (o : Ob) {k : Nat} (p : k ≠ h.nx) : (h.new o).get k = h.get k := put_ne 41 h.t h.nx k o p
theorem sif_yes' {t : FT} {s1 s2 : FS} (e : t ρ h = .ok true h1) : sIf t s1 s2 ρ h = s1 ρ h1 := by
  show bindS (t ρ h) ρ (fun b h1 => bif b then s1 ρ h1 else s2 ρ h1) = _
  rw [e]
  rfl
theorem asB_eq {f : FE} {b : Bool} (e : f ρ h = .ok (.bl b) h1) : asB f ρ h = .ok b h1 := by
  show ((f ρ h).bind fun w h1 => match w with | .bl b => .ok b h1 | _ => .no) = _
  rw [e]
  rfl
theorem sas_sb {f fo fi : FE} {l : Nat} {h3 : Hpe} (e : f ρ h = .ok w h1) (eo : fo ρ h1 = .ok (.ref n) h2) (ei : fi ρ h2 = .ok (.int j) h3) (g : h3.get n = some (.lst ws)) (el : ixN ws.length j = some l) : sAs f (gSb2 fo fi) ρ h = .nx ρ (h3.set n (.lst (ws.set l w))) := by
  show bindS (f ρ h) ρ (fun w h1 => (gSb2 fo fi w ρ h1).cl) = _
  rw [e]
  show (bindS (fo ρ h1) ρ fun u h1 => bindS (fi ρ h1) ρ fun k h2 => match putO u k w h2 with | some h3 => RS.nx ρ h3 | none => .no).cl = _
  rw [eo]
  show (bindS (fi ρ h2) ρ fun k h2 => match putO (.ref n) k w h2 with | some h3 => RS.nx ρ h3 | none => .no).cl = _
  rw [ei]
  show (match putO (.ref n) (.int j) w h3 with | some h3 => RS.nx ρ h3 | none => .no).cl = _
  rw [put_lst g el]
  rfl
end
theorem take_ok {h : Hpe} {n : Nat} {a b c low : Int} (g : h.get n = some (.lst [.int a, .int b, .int c])) (hn : n + 1 < 2199023255552) (l0 : 0 < low) (l1 : low < 1073741824) (c0 : 0 ≤ c) (c1 : c < 1000000000) :
    ∃ t a' c' : Int, 0 ≤ t ∧ t < low ∧ c ≤ c' ∧ c' ≤ c + 1 ∧ runB 6 uTake [.ref n, .int low] h = .ok (.int t) (h.set n (.lst [.int a', .int b, .int c'])) := by
  have s0 : ∀ ρ : Rho, eV 0 (some (.ref n) :: ρ) h = .ok (.ref n) h := fun _ => rfl
  have ix0 : ∀ ρ : Rho, e2 gIx2 (eV 0) (eK (.int 0)) (some (.ref n) :: ρ) h = .ok (.int a) h := fun ρ => (e2_ok (s0 ρ) rfl).trans (ix_lst g rfl)
  have cnd : asB (e2 (gB0 fun i j => decide (j < i)) (e2 gIx2 (eV 0) (eK (.int 0))) (eK (.int 0))) [some (.ref n), some (.int low), none, none, none, none] h = .ok (decide (0 < a)) h := asB_eq ((e2_ok (b := .int 0) (h2 := h) (ix0 _) rfl).trans rfl)
  by_cases pa : 0 < a
  · rw [decide_eq_true pa] at cnd
    refine ⟨a % low, a / low, c, Int.emod_nonneg _ (by omega), Int.emod_lt_of_pos _ l0, by omega, by omega, ?_⟩
    refine run_rt (n := 6) (ws := [.ref n, .int low]) ?_
    show uTake [some (.ref n), some (.int low), none, none, none, none] h = _
    unfold uTake
    refine seq_rt ((sif_yes' cnd).trans ?_)
    refine (seq_nx (sas_n (w := .int (a % low)) (h1 := h) ((e2_ok (a := .int a) (b := .int low) (h1 := h) (h2 := h) ((bl_1 (ix0 _)).trans rfl) rfl).trans (md_ok l0)))).trans ?_
    refine (seq_nx (sas_sb (l := 0) (j := 0) ((e2_ok (b := .int low) (h2 := h) (ix0 _) rfl).trans (dv_ok l0 l1)) rfl rfl g rfl)).trans ?_
    exact seq_rt (srt_ok rfl)
  · rw [decide_eq_false pa] at cnd
    have g1 : (h.set n (.lst [.int a, .int b, .int (c + 1)])).get n = some (.lst [.int a, .int b, .int (c + 1)]) := set_get _ hn
    refine ⟨((((((b + 48271 * (c + 1)) * (39373 + (c + 1))) % 2147483647 + (c + 1) + b / 1000003) * (((b + 48271 * (c + 1)) * (39373 + (c + 1))) % 2147483647 % 40009 + 7)) % 2147483629 * 48271 + ((b + 48271 * (c + 1)) * (39373 + (c + 1))) % 2147483647) % 2147483587 / 64) % low, a, c + 1, Int.emod_nonneg _ (by omega), Int.emod_lt_of_pos _ l0, by omega, by omega, ?_⟩
    generalize eh : h.set n (.lst [.int a, .int b, .int (c + 1)]) = h' at g1 ⊢
    have jx1 : ∀ ρ : Rho, e2 gIx2 (eV 0) (eK (.int 1)) (some (.ref n) :: ρ) h' = .ok (.int b) h' := fun ρ => (e2_ok (a := .ref n) (b := .int 1) (h1 := h') (h2 := h') rfl rfl).trans (ix_lst g1 rfl)
    have jx2 : ∀ ρ : Rho, e2 gIx2 (eV 0) (eK (.int 2)) (some (.ref n) :: ρ) h' = .ok (.int (c + 1)) h' := fun ρ => (e2_ok (a := .ref n) (b := .int 2) (h1 := h') (h2 := h') rfl rfl).trans (ix_lst g1 rfl)
    refine run_rt (n := 6) (ws := [.ref n, .int low]) ?_
    show uTake [some (.ref n), some (.int low), none, none, none, none] h = _
    unfold uTake
    refine (seq_nx ((sif_no cnd).trans rfl)).trans ?_
    have st1 : sAs (e2 gAdd (e2 gIx2 (eV 0) (eK (.int 2))) (eK (.int 1))) (gSb2 (eV 0) (eK (.int 2))) [some (.ref n), some (.int low), none, none, none, none] h = .nx [some (.ref n), some (.int low), none, none, none, none] h' := by
      rw [← eh]
      exact sas_sb (l := 2) (j := 2) (w := .int (c + 1)) ((e2_ok (a := .int c) (b := .int 1) (h1 := h) (h2 := h) ((e2_ok (s0 _) rfl).trans (ix_lst g rfl)) rfl).trans rfl) (s0 _) rfl g rfl
    refine (seq_nx st1).trans ?_
    refine (seq_nx (sas_n (w := .int (((b + 48271 * (c + 1)) * (39373 + (c + 1))) % 2147483647)) (h1 := h') ((e2_ok (b := .int 2147483647) (h2 := h') ((bl_1 ((e2_ok ((e2_ok (b := .int (48271 * (c + 1))) (h2 := h') (jx1 _) ((e2_ok (a := .int 48271) (h1 := h') rfl (jx2 _)).trans (mul_L (by decide) (by decide)))).trans rfl) ((e2_ok (a := .int 39373) (h1 := h') rfl (jx2 _)).trans rfl)).trans (mul_R (by omega) (by omega)))).trans rfl) rfl).trans (md_ok (by decide))))).trans ?_
    generalize ((b + 48271 * (c + 1)) * (39373 + (c + 1))) % 2147483647 = o1
    refine (seq_nx (sas_n (w := .int (o1 % 40009 + 7)) (h1 := h') ((e2_ok (b := .int 7) (h2 := h') ((e2_ok (a := .int o1) (b := .int 40009) (h1 := h') (h2 := h') rfl rfl).trans (md_ok (by decide))) rfl).trans rfl))).trans ?_
    have w2 : 0 ≤ o1 % 40009 + 7 ∧ o1 % 40009 + 7 < 40016 := ⟨by omega, by omega⟩
    generalize o1 % 40009 + 7 = o2 at w2 ⊢
    refine (seq_nx (sas_n (w := .int (((o1 + (c + 1) + b / 1000003) * o2) % 2147483629)) (h1 := h') ((e2_ok (b := .int 2147483629) (h2 := h') ((bl_1 ((e2_ok (b := .int o2) (h2 := h') ((e2_ok ((e2_ok (a := .int o1) (h1 := h') rfl (jx2 _)).trans rfl) ((e2_ok (b := .int 1000003) (h2 := h') (jx1 _) rfl).trans (dv_ok (by decide) (by decide)))).trans rfl) rfl).trans (mul_R (by omega) (by omega)))).trans rfl) rfl).trans (md_ok (by decide))))).trans ?_
    generalize ((o1 + (c + 1) + b / 1000003) * o2) % 2147483629 = o3
    refine seq_rt (srt_ok ?_)
    refine (e2_ok (a := .int ((o3 * 48271 + o1) % 2147483587 / 64)) (b := .int low) (h1 := h') (h2 := h') ((bl_1 ((e2_ok (b := .int 64) (h2 := h') ((e2_ok (a := .int (o3 * 48271 + o1)) (b := .int 2147483587) (h1 := h') (h2 := h') ((bl_1 ((e2_ok (a := .int (o3 * 48271)) (b := .int o1) (h1 := h') (h2 := h') ((e2_ok (a := .int o3) (b := .int 48271) (h1 := h') (h2 := h') rfl rfl).trans (mul_R (by decide) (by decide))) rfl).trans rfl)).trans rfl) rfl).trans (md_ok (by decide))) rfl).trans (dv_ok (by decide) (by decide)))).trans rfl) rfl).trans (md_ok l0)
theorem forE_nx {src : Src} {g : FG} {b : FS} {k i : Nat} {ρ ρ1 ρ2 : Rho} {h h1 h2 : Hpe} {w : W} (e : src h i = some (some w)) (eg : g w ρ h = .nx ρ1 h1) (eb : b ρ1 h1 = .nx ρ2 h2) : forE src g b (k + 1) i ρ h = forE src g b k (i + 1) ρ2 h2 := by
  rw [forE, e]
  dsimp only
  rw [eg]
  dsimp only
  rw [eb]
theorem forE_end {src : Src} {g : FG} {b : FS} {k i : Nat} {ρ : Rho} {h : Hpe} (e : src h i = some none) : forE src g b (k + 1) i ρ h = .nx ρ h := by
  rw [forE, e]
def cellsH (o : Ob) (x z : Int) (sl : List W) : Hpe := ⟨4, .nd (some o) (.nd (some (.lst [.int x])) (.nd (some (.lst sl)) .lf .lf) .lf) (.nd (some (.lst [.int z])) .lf .lf), []⟩
def cellsB : FS := sSeq (sAs (e2 gMd (eBl bInt (aC (eV 3) aN)) (eV 1)) (gN 5)) (sSeq (sAs (e2 gAdd (e2 gIx2 (eV 2) (eV 5)) (e2 gMul (eV 4) (e2 gAdd (eV 3) (eK (.int 2))))) (gSb2 (eV 2) (eV 5))) sNil)
def rhoC (u3 u4 u5 : Option W) : Rho := [some (.ref 0), some (.int 1), some (.ref 2), u3, u4, u5]
section
variable (o : Ob) (x z y i : Int) (sl : List W) (u3 u4 u5 : Option W) (w : W)
theorem cells_t : gTL 2 (gsC (gN 3) (gsC (gN 4) gsN)) (.tup [.int i, .int y]) (rhoC u3 u4 u5) (cellsH o x z sl) = .nx (rhoC (some (.int i)) (some (.int y)) u5) (cellsH o x z sl) := by kernel_rfl
theorem cells_m : e2 gMd (eBl bInt (aC (eV 3) aN)) (eV 1) (rhoC (some (.int i)) (some (.int y)) u5) (cellsH o x z sl) = gMd (.int i) (.int 1) (cellsH o x z sl) := by kernel_rfl
theorem cells_s : (rhoC (some (.int i)) (some (.int y)) u5).set 5 (some w) = rhoC (some (.int i)) (some (.int y)) (some w) := by kernel_rfl
theorem cells_x : e2 gIx2 (eV 2) (eV 5) (rhoC u3 u4 (some (.int 0))) (cellsH o x z sl) = .ok (.int z) (cellsH o x z sl) := by kernel_rfl
theorem cells_y : e2 gMul (eV 4) (e2 gAdd (eV 3) (eK (.int 2))) (rhoC (some (.int i)) (some (.int y)) u5) (cellsH o x z sl) = gMul (.int y) (.int (i + 2)) (cellsH o x z sl) := by kernel_rfl
theorem cells_g : (cellsH o x z sl).get 2 = some (.lst [.int z]) := by kernel_rfl
theorem cells_p (z' : Int) : (cellsH o x z sl).set 2 (.lst ([W.int z].set 0 (.int z'))) = cellsH o x z' sl := by kernel_rfl
theorem cells_2 : eV 2 (rhoC u3 u4 u5) (cellsH o x z sl) = .ok (.ref 2) (cellsH o x z sl) := by kernel_rfl
theorem cells_5 : eV 5 (rhoC u3 u4 (some (.int 0))) (cellsH o x z sl) = .ok (.int 0) (cellsH o x z sl) := by kernel_rfl
theorem cells_r : rdS (.ref 3) (cellsH o x z sl) = some sl := by kernel_rfl
end
theorem cells_b (o : Ob) (x z y i : Int) (sl : List W) (u5 : Option W) (i0 : 0 ≤ i) (i1 : i < 1000) : cellsB (rhoC (some (.int i)) (some (.int y)) u5) (cellsH o x z sl) = .nx (rhoC (some (.int i)) (some (.int y)) (some (.int 0))) (cellsH o x (z + y * (i + 2)) sl) := by
  have b1 : sAs (e2 gMd (eBl bInt (aC (eV 3) aN)) (eV 1)) (gN 5) (rhoC (some (.int i)) (some (.int y)) u5) (cellsH o x z sl) = .nx (rhoC (some (.int i)) (some (.int y)) (some (.int 0))) (cellsH o x z sl) := by
    have m : gMd (.int i) (.int 1) (cellsH o x z sl) = .ok (.int 0) (cellsH o x z sl) := by rw [md_ok (by decide), Int.emod_one]
    rw [sas_n ((cells_m o x z y i sl u5).trans m), cells_s]
  have b2 : sAs (e2 gAdd (e2 gIx2 (eV 2) (eV 5)) (e2 gMul (eV 4) (e2 gAdd (eV 3) (eK (.int 2))))) (gSb2 (eV 2) (eV 5)) (rhoC (some (.int i)) (some (.int y)) (some (.int 0))) (cellsH o x z sl) = .nx (rhoC (some (.int i)) (some (.int y)) (some (.int 0))) (cellsH o x (z + y * (i + 2)) sl) := by
    have m : gMul (.int y) (.int (i + 2)) (cellsH o x z sl) = .ok (.int (y * (i + 2))) (cellsH o x z sl) := mul_R (by omega) (by omega)
    have e : e2 gAdd (e2 gIx2 (eV 2) (eV 5)) (e2 gMul (eV 4) (e2 gAdd (eV 3) (eK (.int 2)))) (rhoC (some (.int i)) (some (.int y)) (some (.int 0))) (cellsH o x z sl) = .ok (.int (z + y * (i + 2))) (cellsH o x z sl) := (e2_ok (cells_x o x z sl _ _) ((cells_y o x z y i sl _).trans m)).trans (by kernel_rfl)
    rw [sas_sb (l := 0) e (cells_2 o x z sl _ _ _) (cells_5 o x z sl _ _) (cells_g o x z sl) (by kernel_rfl), cells_p]
  exact (seq_nx b1).trans ((seq_nx b2).trans rfl)
theorem cells_turns (o : Ob) (x : Int) (xs : List Int) : ∀ (k i : Nat) (z : Int) (u3 u4 u5 : Option W), xs.length < 100 → i ≤ xs.length → xs.length - i < k → ∃ (z' : Int) (v3 v4 v5 : Option W),
    forE (srcE (.ref 3)) (gTL 2 (gsC (gN 3) (gsC (gN 4) gsN))) cellsB k i (rhoC u3 u4 u5) (cellsH o x z (xs.map W.int)) = .nx (rhoC v3 v4 v5) (cellsH o x z' (xs.map W.int))
  | 0, i, z, u3, u4, u5, _, _, h => by omega
  | k + 1, i, z, u3, u4, u5, hl, hi, h => by
    by_cases c : i < xs.length
    · obtain ⟨y, ey⟩ : ∃ y, xs[i]? = some y := ⟨_, List.getElem?_eq_getElem c⟩
      have e1 : srcE (.ref 3) (cellsH o x z (xs.map W.int)) i = some (some (.tup [.int (i : Nat), .int y])) := by
        unfold srcE
        rw [cells_r]
        dsimp only
        rw [List.getElem?_map, ey]
        rfl
      obtain ⟨z', v3, v4, v5, ih⟩ := cells_turns o x xs k (i + 1) (z + y * ((i : Int) + 2)) (some (.int i)) (some (.int y)) (some (.int 0)) hl c (by omega)
      exact ⟨z', v3, v4, v5, (forE_nx e1 (cells_t o x z y i _ u3 u4 u5) (cells_b o x z y i _ u5 (by omega) (by omega))).trans ih⟩
    · have e1 : srcE (.ref 3) (cellsH o x z (xs.map W.int)) i = some none := by
        unfold srcE
        rw [cells_r]
        dsimp only
        rw [List.getElem?_map, List.getElem?_eq_none (by omega)]
        rfl
      exact ⟨z, u3, u4, u5, forE_end e1⟩
theorem cut_map (ns : List Int) (lo hi : Option Int) : ∃ xs : List Int, cutW (ns.map W.int) lo hi = xs.map W.int ∧ xs.length ≤ ns.length := by
  refine ⟨(ns.drop (HT.sIx (ns.map W.int).length 0 lo)).take (HT.sIx (ns.map W.int).length (ns.map W.int).length hi - HT.sIx (ns.map W.int).length 0 lo), ?_, ?_⟩
  · unfold cutW
    rw [List.map_take, List.map_drop]
  · rw [List.length_take, List.length_drop]
    omega
theorem cut_one (w : W) (ws : List W) : cutW (w :: ws) none (some 1) = [w] := by
  unfold cutW
  have e : HT.sIx (w :: ws).length (w :: ws).length (some 1) = 1 := by
    have z := HT.sIx_nat (w :: ws).length (w :: ws).length 1
    rw [show ((1 : Nat) : Int) = 1 from rfl] at z
    rw [z, List.length_cons]
    omega
  rw [e, HT.sIx_none]
  rfl
theorem sl_ok {f : FE} {fl fh : FO} {ρ : Rho} {h h1 h2 h3 : Hpe} {n : Nat} {lo hi : Option Int} {ws : List W} (e : f ρ h = .ok (.ref n) h1) (el : fl ρ h1 = .ok lo h2) (eh : fh ρ h2 = .ok hi h3) (g : rdL h3 n = some ws) : eSl f fl fh ρ h = h3.al (.lst (cutW ws lo hi)) := by
  unfold eSl
  rw [e]
  show ((fl ρ h1).bind fun lo h2 => (fh ρ h2).bind fun hi h3 => match rdL h3 n with
    | some ws => h3.al (.lst (cutW ws lo hi))
    | none => .no) = _
  rw [el]
  show ((fh ρ h2).bind fun hi h3 => match rdL h3 n with
    | some ws => h3.al (.lst (cutW ws lo hi))
    | none => .no) = _
  rw [eh]
  show (match rdL h3 n with
    | some ws => h3.al (.lst (cutW ws lo hi))
    | none => .no) = _
  rw [g]
theorem ac_ok {f : FE} {fs : FA} {ρ : Rho} {w : W} {ws : List W} {h h1 h2 : Hpe} (e : f ρ h = .ok w h1) (es : fs ρ h1 = .ok ws h2) : aC f fs ρ h = .ok (w :: ws) h2 := by
  unfold aC
  rw [e]
  show ((fs ρ h1).bind fun ws h2 => Res.ok (w :: ws) h2) = _
  rw [es]
  rfl
theorem lst_ok {fs : FA} {ρ : Rho} {ws : List W} {h h1 : Hpe} (e : fs ρ h = .ok ws h1) (l : line ws.length = true) : eLst fs ρ h = h1.al (.lst ws) := by
  unfold eLst
  rw [e]
  show (bif line ws.length then h1.al (.lst ws) else .no) = _
  rw [l]
  rfl
theorem orT_of {fa fb : FE} {ρ : Rho} {w : W} {h h1 : Hpe} (e : fa ρ h = .ok w h1) : eOrT fa fb ρ h = (match truW w h1 with
    | some true => .ok w h1
    | some false => fb ρ h1
    | none => .no) := by
  show ((fa ρ h).bind fun w h1 => match truW w h1 with
    | some true => .ok w h1
    | some false => fb ρ h1
    | none => .no) = _
  rw [e]
  rfl
theorem sfor_ok {fi : FI} {g : FG} {b : FS} {ρ : Rho} {h h1 : Hpe} {src : Src} (e : fi ρ h = .ok src h1) : sFor fi g b ρ h = forE src g b 1000000 0 ρ h1 := by
  unfold sFor
  rw [e]
  rfl
def cellsI : FI := iOr (tupR (aC (eSl (eV 0) (oS (eV 1)) (oS (eK (.int 63)))) aN)) (iET (aC (eSl (eV 0) (oS (eV 1)) (oS (eK (.int 63)))) aN)) (iEL (aC (eSl (eV 0) (oS (eV 1)) (oS (eK (.int 63)))) aN))
theorem cellsI_ok {ρ : Rho} {h h1 : Hpe} {n : Nat} {ws : List W} (e : eSl (eV 0) (oS (eV 1)) (oS (eK (.int 63))) ρ h = .ok (.ref n) h1) (g : rdL h1 n = some ws) : cellsI ρ h = .ok (srcE (.ref n)) h1 := by
  have a : aC (eSl (eV 0) (oS (eV 1)) (oS (eK (.int 63)))) aN ρ h = .ok [.ref n] h1 := by
    unfold aC
    rw [e]
    rfl
  unfold cellsI iOr tupR
  rw [a]
  show iEL (aC (eSl (eV 0) (oS (eV 1)) (oS (eK (.int 63)))) aN) ρ h = _
  unfold iEL
  rw [a]
  show (match rdL h1 n with
    | some _ => Res.ok (srcE (.ref n)) h1
    | _ => .no) = _
  rw [g]
def rho1 : Rho := [some (.ref 0), some (.int 1), none, none, none, none]
theorem box_ok {h : Hpe} {c : Nat} {z c0 : Int} (g : h.get c = some (.lst [.int z])) (hn : h.nx < 1000) : ∃ a b : Int, runB 3 (uBox c0) [.ref c, .int 0] h = .ok (.ref h.nx) (h.new (.lst [.int a, .int b, .int 0])) := by
  have ln : bLen3 [.ref c] h = .ok (.int 1) h := by
    have r : bLen [.ref c] h = .ok (.int 1) h := by
      show (match rdL h c with | some ws => Res.ok (W.int ws.length) h | none => .no) = _
      rw [rdL_of g]
      rfl
    unfold bLen3
    dsimp only
    rw [g]
    exact r
  have v0 : ∀ ρ : Rho, eV 0 (some (.ref c) :: ρ) h = .ok (.ref c) h := fun _ => rfl
  have t0 : asB (e2 (gB0 fun i j => decide (i < j)) (eV 1) (eBl bLen3 (aC (eV 0) aN))) [some (.ref c), some (.int 0), none] h = .ok true h := asB_eq ((e2_ok (a := .int 0) (h1 := h) rfl ((bl_1 (v0 _)).trans ln)).trans rfl)
  have t1 : e2 gIx2 (eV 0) (eV 1) [some (.ref c), some (.int 0), none] h = .ok (.int z) h := (e2_ok (b := .int 0) (h2 := h) (v0 _) rfl).trans (ix_lst g rfl)
  have t2 := (if_ok (fa := e2 gIx2 (eV 0) (eV 1)) (fb := eK (.int 0)) t0).trans t1
  have al : ∀ a b : Int, h.al (.lst [.int a, .int b, .int 0]) = .ok (.ref h.nx) (h.new (.lst [.int a, .int b, .int 0])) := fun a b => by
    unfold Hpe.al
    rw [show Nat.blt h.nx 1099511627776 = true from Nat.ble_eq_true_of_le (by omega)]
    rfl
  have ab : eBl bAbs (aC (eV 2) aN) [some (.ref c), some (.int 0), some (.int z)] h = .ok (.int (if z < 0 then -z else z)) h := rfl
  have ge : ∃ j : Int, 0 ≤ j ∧ j ≤ 1 ∧ eBl bInt (aC (e2 (gB0 fun i j => decide (j ≤ i)) (eBl bAbs (aC (eV 2) aN)) (e2 (gI cPow fun i j => i ^ j.toNat) (eK (.int 10)) (eK (.int 18)))) aN) [some (.ref c), some (.int 0), some (.int z)] h = .ok (.int j) h := by
    have p : e2 (gI cPow fun i j => i ^ j.toNat) (eK (.int 10)) (eK (.int 18)) [some (.ref c), some (.int 0), some (.int z)] h = .ok (.int 1000000000000000000) h := by kernel_rfl
    have q : e2 (gB0 fun i j => decide (j ≤ i)) (eBl bAbs (aC (eV 2) aN)) (e2 (gI cPow fun i j => i ^ j.toNat) (eK (.int 10)) (eK (.int 18))) [some (.ref c), some (.int 0), some (.int z)] h = .ok (.bl (decide (1000000000000000000 ≤ if z < 0 then -z else z))) h := (e2_ok ab p).trans rfl
    cases d : decide (1000000000000000000 ≤ if z < 0 then -z else z) with
    | true => rw [d] at q; exact ⟨1, by omega, by omega, (bl_1 q).trans rfl⟩
    | false => rw [d] at q; exact ⟨0, by omega, by omega, (bl_1 q).trans rfl⟩
  obtain ⟨j, j0, j1, ej⟩ := ge
  have p1 := (e2_ok ab ej).trans (mul_R (i := if z < 0 then -z else z) (h := h) (by omega) (by omega))
  have m0 : gMul (.int 39373) (.int 0) h = .ok (.int 0) h := by kernel_rfl
  have p2 : e2 gAdd (e2 gAdd (e2 gMd (eBl bInt (aC (eV 2) aN)) (eK (.int 2305843009213693951))) (e2 gMul (eK (.int 39373)) (eV 1))) (eK (.int c0)) [some (.ref c), some (.int 0), some (.int z)] h = .ok (.int (z % 2305843009213693951 + 0 + c0)) h :=
    (e2_ok (b := .int c0) (h2 := h) ((e2_ok ((e2_ok (a := .int z) (b := .int 2305843009213693951) (h1 := h) (h2 := h) rfl rfl).trans (md_ok (by decide))) ((e2_ok (a := .int 39373) (b := .int 0) (h1 := h) (h2 := h) rfl rfl).trans m0)).trans rfl) rfl).trans rfl
  refine ⟨(if z < 0 then -z else z) * j, z % 2305843009213693951 + 0 + c0, ?_⟩
  refine run_rt (n := 3) (ws := [.ref c, .int 0]) ?_
  show uBox c0 [some (.ref c), some (.int 0), none] h = _
  unfold uBox
  refine (seq_nx (sas_n t2)).trans (seq_rt (srt_ok ?_))
  exact (lst_ok (ac_ok p1 (ac_ok p2 (ac_ok (rfl : eK (.int 0) _ h = .ok (.int 0) h) (rfl : aN _ h = .ok [] h)))) rfl).trans (al _ _)
end EV
namespace EV
open PySem PySem.Spec PyProof.Rows L2
section
variable {T : Nat → List W → Hpe → Res W} {kb kc kt : Nat}
def UrnAt (h : Hpe) (n : Nat) (c : Int) : Prop := ∃ a b c' : Int, h.get n = some (.lst [.int a, .int b, .int c']) ∧ 0 ≤ c' ∧ c' ≤ c
theorem len_lst {h : Hpe} {m : Nat} {ws : List W} (g : h.get m = some (.lst ws)) : bLen3 [.ref m] h = .ok (.int ((ws.length : Nat) : Int)) h := by
  have r : bLen [.ref m] h = .ok (.int ((ws.length : Nat) : Int)) h := by
    show (match rdL h m with | some ws => Res.ok (W.int ws.length) h | none => .no) = _
    rw [rdL_of g]
  unfold bLen3
  dsimp only
  rw [g]
  exact r
theorem atI_pos {ws : List W} {i : Nat} (hi : i < ws.length) : atI ws ((i : Nat) : Int) = some ws[i] := by
  unfold atI ixN
  have c1 : ¬ ((i : Int) < 0) := by omega
  simp [hi]
end
end EV
namespace EV
open PySem PySem.Spec PyProof.Rows L2
section
variable {T : Nat → List W → Hpe → Res W} {kb kc kt : Nat}
end
end EV
namespace EV
open PySem PySem.Spec PyProof.Rows L2
section
variable {X : Cx} {B : Bx} {pos : Pos}
theorem se_w (i : Nat) {x : Str} (hN : X.N[i]? = some x := by rfl) (hv : Vis X.env.scope x := by first | exact Or.inl rfl | exact Or.inr (Or.inl rfl) | exact Or.inr (Or.inr rfl)) (hd : (x == ("__debug__" : Str)) = false := by decide) (hcd : (x == ("__classdict__" : Str)) = false := by decide) : SE X B (.Name x pos) (eV i) := se_v i hN hv hd hcd
end
end EV
namespace EV
open PySem PySem.Spec PyProof.Rows L2
section
variable {X : Cx} {B : Bx} {k lv i n : Nat} {T : Nat → List W → Hpe → Res W} {g : List W → Hpe → Res W} {x : Str} {p pos : Pos} {e : Expr} {es : List Expr} {fs : FA}
end
end EV
namespace EV
open PySem PySem.Spec PyProof.Rows L2
def blankO : Option W → Option W
  | some w => bif noRef w then some w else none
  | none => none
def blankR (ρ : Rho) : Rho := ρ.map blankO
section
variable {G : GC} {cf : CF} {m : Nat → Addr} {h : Hpe} {H : Hp} {ρ : Rho} {σ : L2.St}
variable {X : Cx} {B : Bx} {e : Expr} {f : FE}
end
end EV
namespace EV
open PySem PySem.Spec PyProof.Rows L2
section
variable {X : Cx} {pins : List (Addr × Obj)} {σ : L2.St} {H : Hp} {s : Shared} {a C dx : Addr} {B newId initId : String} {bm : List Value}
end
section
variable {X : Cx} {e : Expr} {es : List Expr} {ta : TA} {x : Str} {p1 p2 pos : Pos} {B newId initId : String} {bm : List Value}
end
def spT (K : PySem.W.Frag) (C : Addr) (f : Str) : Sp := fun vs H Q _ => ∃ (a b : Addr) (l : List Int), vs = [.ref a, .ref b] ∧ SqT K H b (l.map L2.V.int) ∧ (∀ y ∈ l, y.natAbs.log2 < 1920) ∧ l.length ≤ 1000 ∧ H a = some (exo a C none) ∧
  ∀ dx, H dx = none → dx ≠ a → Q .non (upd (upd H dx (exd dx [(f, .ref b)])) a (exo a C (some dx)))
structure ExT (P : Program) (w : World) (K : PySem.W.Frag) (mg : Str → Option Value) (base : Heap) (cl : Cls) (x f : Str) (k : Nat) : Prop where
  ex : ∃ C B newId initId bm fI fd ps, BaseE B newId initId bm ∧ OwnE K C newId bm ∧ mg x = some (.ref C) ∧ cl k = some (.ref C) ∧ PySem.W.findIn K (.ref C) "__init__" = some (some (.ref fI)) ∧ PySem.W.typeIn K (.ref fI) = some (.type "function") ∧
    FnOk P w K mg base (L2.CX P w) 1 fI fd ps (spT K C f) ∧ Binds K fd ps []
section
variable {X : Cx} {B : Bx} {e : Expr} {es : List Expr} {fs : FA} {p pos pos' : Pos} {x f : Str} {k j : Nat}
end
section
open PySem.W
variable {P : Program} {w : World} {K : PySem.W.Frag} {mg : Str → Option Value} {base h : Heap} {Cs : List Addr} {C : Addr} {k : Nat} {x f : Str}
end
end EV
namespace EV
open PySem PySem.Spec PyProof.Rows L2
section
variable {X : Cx} {B : Bx} {a b : Expr} {fa fb : FE} {pos : Pos}
end
end EV
namespace EV
open PySem PySem.Spec PyProof.Rows L2
section
variable {X : Cx} {B : Bx} {e o : Expr} {es : List Expr} {fo f : FE} {fs : FA} {apos cpos : Pos}
end
end EV
namespace EV
open PySem PySem.Spec PyProof.Rows L2
section
variable {X : Cx} {B : Bx} {e : Expr} {es : List Expr} {fs : FA} {p pos : Pos} {x f : Str} {k j : Nat}
end
section
variable {X : Cx} {B : Bx} {a t : Expr} {f : FE} {p pos : Pos} {tb : List (Nat × Bool)} {cv : Value} {vt : L2.V}
end
end EV
namespace EV
open PySem PySem.Spec PyProof.Rows L2 PySem.HandSPX PySem.W PySem.Calls
section
variable {C N : Addr} {nm q : Str} {bm bs bmB : List Value} {hdct ab : Bool} {sn : List Str} {sub : List Value} {col : Option Bool} {dd : Option Addr} {k0 k1 k2 k3 k5 : Option Value} {B initId newId : String} {kw : List (Str × Value)}
variable {w : World} {prog : Program} {M : Model} {A : Around} {R : Result → Shared → Prop} {E : Value → Shared → Prop} {g : Array GenState} {h : Heap} {d : Drawn} {t : Nat} {os : OsState}
end
end EV
namespace EV
open PySem PySem.Spec PyProof.Rows L2
section
variable {X : Cx} {e : Expr} {ta : TA} {x pm : Str} {p pos : Pos} {B newId initId : String} {bm : List Value} {kws : List Keyword}
end
end EV
namespace EV
open PySem PySem.Spec PyProof.Rows L2
def BindK (fd : FuncData) (pm : Str) : Prop := ∀ (s : Shared) (a u : Value), BindsTo s fd ⟨[a], [(pm, u)]⟩ [("self", a), (pm, u)]
structure ExIK (P : Program) (w : World) (K : PySem.W.Frag) (mg : Str → Option Value) (base : Heap) (cl : Cls) (x f pm : Str) (k : Nat) : Prop where
  ex : ∃ C B newId initId bm fI fd, BaseE B newId initId bm ∧ OwnE K C newId bm ∧ mg x = some (.ref C) ∧ cl k = some (.ref C) ∧ PySem.W.findIn K (.ref C) "__init__" = some (some (.ref fI)) ∧ PySem.W.typeIn K (.ref fI) = some (.type "function") ∧
    FnOk P w K mg base (L2.CX P w) 1 fI fd ["self", pm] (spI C f) ∧ BindK fd pm
structure ExTK (P : Program) (w : World) (K : PySem.W.Frag) (mg : Str → Option Value) (base : Heap) (cl : Cls) (x f pm : Str) (k : Nat) : Prop where
  ex : ∃ C B newId initId bm fI fd, BaseE B newId initId bm ∧ OwnE K C newId bm ∧ mg x = some (.ref C) ∧ cl k = some (.ref C) ∧ PySem.W.findIn K (.ref C) "__init__" = some (some (.ref fI)) ∧ PySem.W.typeIn K (.ref fI) = some (.type "function") ∧
    FnOk P w K mg base (L2.CX P w) 1 fI fd ["self", pm] (spT K C f) ∧ BindK fd pm
section
variable {X : Cx} {B : Bx} {fs : FA} {p pos pos' : Pos} {x f pm : Str} {k j : Nat} {kws : List Keyword}
end
section
open PySem.W
variable {P : Program} {w : World} {K : PySem.W.Frag} {mg : Str → Option Value} {base h : Heap} {Cs : List Addr} {C : Addr} {k : Nat} {x f pm : Str}
end
end EV
namespace EV
open PySem PySem.Spec PyProof.Rows L2
theorem SS.back {G : GC} {cf : CF} {m m' : Nat → Addr} {h h' : Hpe} {H H' : Hp} {ρ ρ' : Rho} {σ σ' : L2.St} (s : SS G cf m h ρ σ H) (s' : SS G cf m' h' ρ' σ' H') (mv : Mv m Hpe.nil.nx H m' h'.nx H') : SS G cf m h (blankR ρ') σ' H' where
  rh := s.rh.back s'.rh mv
  len := by unfold blankR; rw [List.length_map]; exact s'.len
  sl := fun i w e => by
    unfold blankR at e
    rw [List.getElem?_map] at e
    cases q : ρ'[i]? with
    | none => rw [q] at e; cases e
    | some o =>
      rw [q] at e
      cases o with
      | none => cases e
      | some w0 =>
        simp only [Option.map_some, blankO] at e
        cases d : noRef w0 with
        | false => rw [d] at e; cases e
        | true =>
          rw [d] at e
          cases e
          obtain ⟨v, e1, r⟩ := s'.sl i w q
          refine ⟨v, e1, ?_⟩
          cases r with
          | rw r => exact .rw (r.free d)
          | clo _ _ => cases d
end EV
namespace EV
open PySem PySem.Builtin PySem.Builtin.Str PySem.StrLaws
end EV
namespace EV
open PySem PySem.Spec PyProof.Rows L2
section
variable {X : Cx} {B : Bx} {a b e o : Expr} {es : List Expr} {fa fb f : FE} {fs : List FE} {apos cpos pos p : Pos}
inductive SJ (X : Cx) (B : Bx) : List Expr → List FE → Prop where
  | nil : SJ X B [] []
  | cons {e : Expr} {f : FE} {es : List Expr} {fs : List FE} (h : SE X B e f) (r : SJ X B es fs) : SJ X B (e :: es) (f :: fs)
end
end EV
namespace EV
open PySem PySem.Spec PyProof.Rows L2
section
variable {X : Cx} {B : Bx} {a b c e o tg : Expr} {es : List Expr} {st : Stmt} {sts : List Stmt} {fa fb f fo : FE} {ft : FT} {fs : FA} {fi : FI} {g : FG} {us : List Nat} {s1 s2 s3 : FS} {y z : Str} {j k : Nat} {c0 c1 apos pos p p1 p2 : Pos}
end
structure FnT (P : Program) (w : World) (K : PySem.W.Frag) (mg : Str → Option Value) (base : Heap) (k : Nat) (f : Addr) (fd : FuncData) (ps : List Str) (G : GC) (cl : Cls) (g : List W → Hpe → Res W) : Prop where
  run : ∀ (A : Around) (outer : List PySem.Env) (s : Shared) (H : Hp) (args : Args) (us : List Value) (vs : List V) (Q : VK) (E : XK), 1 ≤ s.toks → Room k A → Env0 P w K mg base A outer s H → BindsTo s fd args (ps.zip us) → Vals vs us →
    spE G cl ps.length g vs H Q E → codeAny (model P w) A (.call (.ref f) args) (CR (L2.CX P w) outer P w H s Q E) s
structure DfT (P : Program) (w : World) (K : PySem.W.Frag) (mg : Str → Option Value) (base : Heap) (G : GC) (cl : Cls) (x : Str) (ps : List Str) (k : Nat) (g : List W → Hpe → Res W) : Prop where
  ex : ∃ f fd, FnT P w K mg base k f fd ps G cl g ∧ mg x = some (.ref f) ∧ PySem.W.keepIn K (.ref f) = true ∧ Binds K fd ps []
section
variable {P : Program} {w : World} {K : PySem.W.Frag} {mg : Str → Option Value} {base : Heap} {G : GC} {cl : Cls} {n : Str} {st : Stmt} {ps : List Str} {k : Nat} {g : List W → Hpe → Res W}
end
end EV
namespace EV
open PySem PySem.Spec PyProof.Rows L2
section
variable {X : Cx} {B : Bx} {e o : Expr} {es : List Expr} {fo : FE} {fs : FA} {apos cpos pos p : Pos}
section
variable (hK : X.K = B.G.K) (ho : SE X B o fo) (ha : SA X B (e :: es) fs)
    (hfew : ((backTo cpos (starEach (e :: es) X.env)).all (fun x => !x.1) && (backToKw cpos (keywordEach [] X.env)).all (fun x => x.1.isSome)
      && decide ((e :: es).length + ([] : List Keyword).length + (if ([] : List Keyword).isEmpty then 0 else 1) < 30)) = true)
    (hline : (apos.endLine == cpos.line) = true) (hst : starEach (e :: es) X.env = (false, eval e X.env) :: starEach es X.env) (hplain : (backTo cpos (starEach es X.env)).any (·.1) = false)
include hK ho ha hfew hline hst hplain
end
section
variable (hm : X.mg "int" = none) (hg : Gl X "int")
end
end
end EV
namespace EV
open PySem PySem.Spec PyProof.Rows L2
end EV
namespace EV
open PySem PySem.Spec PyProof.Rows L2
section
variable {X : Cx} {B : Bx} {a b e : Expr} {es : List Expr} {fa fb : FE} {fs : FA} {apos cpos p pos : Pos} {x : Str} {kvs : List (Str × Int)}
end
end EV
namespace EV
open PySem PySem.Spec PyProof.Rows L2
section
variable {X : Cx} {B : Bx} {a b : Expr} {fa fb : FE} {pos : Pos}
end
section
variable {X : Cx} {B : Bx} {e : Expr} {fs : FA} {pos p : Pos}
end
end EV
namespace EV
open PySem PySem.Spec PyProof.Rows L2
end EV
namespace EV
open PySem PySem.Spec PyProof.Rows L2
section
variable {X : Cx} {B : Bx} {a b : Expr} {fa fb : FE} {pos : Pos}
end
end EV
namespace L37
open PySem PySem.Spec PyProof.Rows L2 EV
def top (i : Nat) : Stmt := PySem.Challenge.pw_unwound_k37_whole_combed_beside_single_m.main.body.getD i (.Pass ⟨0, 0, 0, 0⟩)
abbrev Tab := Nat → List W → Hpe → Res W
abbrev s_frozen : Stmt := top 1
theorem sc_frozen : FnScope ["value", "wholes", "waiting", "whole", "within", "part", "done", "many", "items"] ["value"] (defScope s_frozen) := ⟨rfl, rfl, rfl, by decide +kernel, rfl, by decide +kernel, by decide +kernel⟩
def F_frozen (T : Tab) : FS :=
    (sSeq (sIf (tNt (asT (eCl 1 (T 1) (aC (eV 0) aN)))) (sSeq (sRt (eV 0))
      sNil) sNil)
      (sSeq (sPar 1 2 (aC (eLst aN) (aC (eLst (aC (eV 0) aN)) aN)))
      (sSeq (sWh (asT (eV 2)) (sSeq (sAs (eMt0 chkL mPop (eV 2)) (gN 3))
      (sSeq (sUn (sAs (eLc (iV3 (eV 3)) (gN 5) (asT (eIs2 Kd.list Kd.tuple (eV 5))) (eV 5) [5]) (gN 4)))
      (sSeq (sEx (eMt chkL mApp (eV 1) (aC (eTup (aC (eV 3) (aC (eBl bLen3 (aC (eV 4) aN)) aN))) aN)))
      (sSeq (sEx (eMt chkL mExt (eV 2) (aC (eRev2 (eV 4)) aN)))
      sNil)))))
      (sSeq (sAs (eLst aN) (gN 6))
      (sSeq (sFor (iRv (eV 1)) (gTL 2 (gsC (gN 3) (gsC (gN 7) gsN))) (sSeq (sIf (asB (e2 (gEq false) (eV 7) (eK (.int 0)))) (sSeq (sEx (eMt chkL mApp (eV 6) (aC (eBl bTup (aC (eV 3) aN)) aN)))
      sNil) (sSeq (sUn (sAs (eLc (iV3 (eV 3)) (gN 5) tYs (eIf (asT (eIs2 Kd.list Kd.tuple (eV 5))) (eMt0 chkL mPop (eV 6)) (eV 5)) [5]) (gN 8)))
      (sSeq (sEx (eMt chkL mApp (eV 6) (aC (eBl bTup (aC (eV 8) aN)) aN)))
      sNil)))
      sNil))
      (sSeq (sRt (e2 gIx2 (eV 6) (eK (.int 0))))
      sNil))))))
abbrev s__holds_list : Stmt := top 2
theorem sc__holds_list : FnScope ["value", "waiting", "whole", "part"] ["value"] (defScope s__holds_list) := ⟨rfl, rfl, rfl, by decide +kernel, rfl, by decide +kernel, by decide +kernel⟩
def F__holds_list (T : Tab) : FS :=
    (sSeq (sIf (tNt (asT (eIs Kd.tuple (eV 0)))) (sSeq (sRt (eIs Kd.list (eV 0)))
      sNil) sNil)
      (sSeq (sAs (eLst (aC (eV 0) aN)) (gN 1))
      (sSeq (sWh (asT (eV 1)) (sSeq (sAs (eMt0 chkL mPop (eV 1)) (gN 2))
      (sSeq (sUn (sFor (iV3 (eV 2)) (gN 3) (sSeq (sIf (asT (eIs Kd.tuple (eV 3))) (sSeq (sEx (eMt chkL mApp (eV 1) (aC (eV 3) aN)))
      sNil) (sSeq (sIf (asT (eIs Kd.list (eV 3))) (sSeq (sRt (eK (.bl true)))
      sNil) sNil)
      sNil))
      sNil)))
      sNil)))
      (sSeq (sRt (eK (.bl false)))
      sNil))))
abbrev s_occurrences : Stmt := top 4
theorem sc_occurrences : FnScope ["term", "found", "waiting", "part"] ["term"] (defScope s_occurrences) := ⟨rfl, rfl, rfl, by decide +kernel, rfl, by decide +kernel, by decide +kernel⟩
def F_occurrences (T : Tab) : FS :=
    (sSeq (sPar 1 2 (aC (eLst aN) (aC (eLst (aC (eV 0) aN)) aN)))
      (sSeq (sWh (asT (eV 2)) (sSeq (sAs (eMt0 chkL mPop (eV 2)) (gN 3))
      (sSeq (sEx (eMt chkL mApp (eV 1) (aC (eV 3) aN)))
      (sSeq (sIf (asB (e2 (gEq false) (e2 gIx2 (eV 3) (eK (.int 0))) (eK (.str "make")))) (sSeq (sEx (eMt chkL mExt (eV 2) (aC (e2 gIx2 (eV 3) (eK (.int 2))) aN)))
      sNil) sNil)
      sNil))))
      (sSeq (sEx (eMt0 chkL mRev (eV 1)))
      (sSeq (sRt (eV 1))
      sNil))))
abbrev s_folded : Stmt := top 5
theorem sc_folded : FnScope ["term", "of_leaf", "of_make", "values", "part", "first", "made"] ["term", "of_leaf", "of_make"] (defScope s_folded) := ⟨rfl, rfl, rfl, by decide +kernel, rfl, by decide +kernel, by decide +kernel⟩
def F_folded (T : Tab) : FS :=
    (sSeq (sAs (eLst aN) (gN 3))
      (sSeq (sUn (sFor (iV3 (eCl 1 (T 2) (aC (eV 0) aN))) (gN 4) (sSeq (sIf (asB (e2 (gEq false) (e2 gIx2 (eV 4) (eK (.int 0))) (eK (.str "make")))) (sSeq (sAs (e2 (gI0 fun i j => i - j) (eBl bLen3 (aC (eV 3) aN)) (eBl bLen3 (aC (e2 gIx2 (eV 4) (eK (.int 2))) aN))) (gN 5))
      (sSeq (sAs (eClV 2 T (aC (e2 gIx2 (eV 4) (eK (.int 1))) (aC (eSl (eV 3) (oS (eV 5)) oN) aN))) (gN 6))
      (sSeq (sDl (eV 3) (oS (eV 5)))
      (sSeq (sEx (eMt chkL mApp (eV 3) (aC (eV 6) aN)))
      sNil)))) (sSeq (sEx (eMt chkL mApp (eV 3) (aC (eClV 1 T (aC (eV 4) aN)) aN)))
      sNil))
      sNil)))
      (sSeq (sRt (e2 gIx2 (eV 3) (eK (.int 0))))
      sNil)))
abbrev s_making : Stmt := top 6
theorem sc_making : FnScope ["maker", "terms"] ["maker", "terms"] (defScope s_making) := ⟨rfl, rfl, rfl, by decide +kernel, rfl, by decide +kernel, by decide +kernel⟩
def F_making (T : Tab) : FS :=
    (sSeq (sRt (eTup (aC (eK (.str "make")) (aC (eV 0) (aC (eBl bTup (aC (eV 1) aN)) aN)))))
      sNil)
abbrev s_combed : Stmt := top 8
theorem sc_combed : FnScope ["one", "maker"] ["one", "maker"] (defScope s_combed) := ⟨rfl, rfl, rfl, by decide +kernel, rfl, by decide +kernel, by decide +kernel⟩
def F_combed (T : Tab) : FS :=
    (sSeq (sRt (eCl 3 (T 3) (aC (eCl 1 (T 0) (aC (eV 0) aN)) (aL (lLam 24 [] (lLam 25 [1] lN))))))
      sNil)
abbrev s__combed_making : Stmt := top 9
theorem sc__combed_making : FnScope ["own", "terms", "maker", "firsts", "rest", "made", "first"] ["own", "terms", "maker"] (defScope s__combed_making) := ⟨rfl, rfl, rfl, by decide +kernel, rfl, by decide +kernel, by decide +kernel⟩
def F__combed_making (T : Tab) : FS :=
    (sSeq (sIf (tOr' (asB (e2 (gEq true) (eV 0) (eV 2))) (asB (e2 (gEq true) (eBl bLen3 (aC (eV 1) aN)) (eK (.int 2))))) (sSeq (sRt (eCl 2 (T 4) (aC (eV 0) (aC (eV 1) aN))))
      sNil) sNil)
      (sSeq (sPar 3 4 (aC (eLst aN) (aC (e2 gIx2 (eV 1) (eK (.int 0))) aN)))
      (sSeq (sWh (tAn (asB (e2 (gEq false) (e2 gIx2 (eV 4) (eK (.int 0))) (eK (.str "make")))) (tAn (asB (e2 (gEq false) (e2 gIx2 (eV 4) (eK (.int 1))) (eV 2))) (asB (e2 (gEq false) (eBl bLen3 (aC (e2 gIx2 (eV 4) (eK (.int 2))) aN)) (eK (.int 2)))))) (sSeq (sEx (eMt chkL mApp (eV 3) (aC (e2 gIx2 (e2 gIx2 (eV 4) (eK (.int 2))) (eK (.int 0))) aN)))
      (sSeq (sAs (e2 gIx2 (e2 gIx2 (eV 4) (eK (.int 2))) (eK (.int 1))) (gN 4))
      sNil)))
      (sSeq (sAs (e2 gIx2 (eV 1) (eK (.int 1))) (gN 5))
      (sSeq (sUn (sFor (iV3 (e2 gAdd (eLst (aC (eV 4) aN)) (eRev2 (eV 3)))) (gN 6) (sSeq (sAs (eCl 2 (T 4) (aC (eV 2) (aC (eTup (aC (eV 6) (aC (eV 5) aN))) aN))) (gN 5))
      sNil)))
      (sSeq (sRt (eV 5))
      sNil))))))
abbrev s_alike_by : Stmt := top 10
theorem sc_alike_by : FnScope ["one", "other", "maker"] ["one", "other", "maker"] (defScope s_alike_by) := ⟨rfl, rfl, rfl, by decide +kernel, rfl, by decide +kernel, by decide +kernel⟩
def F_alike_by (T : Tab) : FS :=
    (sSeq (sRt (e2 (gEq false) (eCl 2 (T 5) (aC (eV 0) (aC (eV 2) aN))) (eCl 2 (T 5) (aC (eV 1) (aC (eV 2) aN)))))
      sNil)
abbrev s__law_box : Stmt := top 12
theorem sc__law_box : FnScope ["script", "k", "cell"] ["script", "k"] (defScope s__law_box) := ⟨rfl, rfl, rfl, by decide +kernel, rfl, by decide +kernel, by decide +kernel⟩
def F__law_box (T : Tab) : FS :=
    (sSeq (sAs (eIf (asB (e2 (gB0 fun i j => decide (i < j)) (eV 1) (eBl bLen3 (aC (eV 0) aN)))) (e2 gIx2 (eV 0) (eV 1)) (eK (.int 0))) (gN 2))
      (sSeq (sRt (eLst (aC (e2 gMul (eBl bAbs (aC (eV 2) aN)) (eBl bInt (aC (e2 (gB0 fun i j => decide (j ≤ i)) (eBl bAbs (aC (eV 2) aN)) (e2 (gI cPow fun i j => i ^ j.toNat) (eK (.int 10)) (eK (.int 18)))) aN))) (aC (e2 gAdd (e2 gAdd (e2 (gI (fun _ j => decide (0 < j)) fun i j => i % j) (eBl bInt (aC (eV 2) aN)) (eK (.int 2305843009213693951))) (e2 gMul (eK (.int 39373)) (eV 1))) (eK (.int 3169037))) (aC (eK (.int 0)) aN)))))
      sNil))
abbrev s__law_take : Stmt := top 13
theorem sc__law_take : FnScope ["tin", "below", "drawn", "once", "broad", "twice"] ["tin", "below"] (defScope s__law_take) := ⟨rfl, rfl, rfl, by decide +kernel, rfl, by decide +kernel, by decide +kernel⟩
def F__law_take (T : Tab) : FS :=
    (sSeq (sIf (asB (e2 (gB0 fun i j => decide (j < i)) (e2 gIx2 (eV 0) (eK (.int 0))) (eK (.int 0)))) (sSeq (sAs (e2 (gI (fun _ j => decide (0 < j)) fun i j => i % j) (eBl bInt (aC (e2 gIx2 (eV 0) (eK (.int 0))) aN)) (eV 1)) (gN 2))
      (sSeq (sAs (e2 (gI cDiv fun i j => i / j) (e2 gIx2 (eV 0) (eK (.int 0))) (eV 1)) (gSb2 (eV 0) (eK (.int 0))))
      (sSeq (sRt (eV 2))
      sNil))) sNil)
      (sSeq (sAs (e2 gAdd (e2 gIx2 (eV 0) (eK (.int 2))) (eK (.int 1))) (gSb2 (eV 0) (eK (.int 2))))
      (sSeq (sAs (e2 (gI (fun _ j => decide (0 < j)) fun i j => i % j) (eBl bInt (aC (e2 gMul (e2 gAdd (e2 gIx2 (eV 0) (eK (.int 1))) (e2 gMul (eK (.int 48271)) (e2 gIx2 (eV 0) (eK (.int 2))))) (e2 gAdd (eK (.int 39373)) (e2 gIx2 (eV 0) (eK (.int 2))))) aN)) (eK (.int 2147483647))) (gN 3))
      (sSeq (sAs (e2 gAdd (e2 (gI (fun _ j => decide (0 < j)) fun i j => i % j) (eBl bInt (aC (eV 3) aN)) (eK (.int 40009))) (eK (.int 7))) (gN 4))
      (sSeq (sAs (e2 (gI (fun _ j => decide (0 < j)) fun i j => i % j) (eBl bInt (aC (e2 gMul (e2 gAdd (e2 gAdd (eV 3) (e2 gIx2 (eV 0) (eK (.int 2)))) (e2 (gI cDiv fun i j => i / j) (e2 gIx2 (eV 0) (eK (.int 1))) (eK (.int 1000003)))) (eV 4)) aN)) (eK (.int 2147483629))) (gN 5))
      (sSeq (sRt (e2 (gI (fun _ j => decide (0 < j)) fun i j => i % j) (eBl bInt (aC (e2 (gI cDiv fun i j => i / j) (e2 (gI (fun _ j => decide (0 < j)) fun i j => i % j) (eBl bInt (aC (e2 gAdd (e2 gMul (eV 5) (eK (.int 48271))) (eV 3)) aN)) (eK (.int 2147483587))) (eK (.int 64))) aN)) (eV 1)))
      sNil))))))
abbrev s__law_cells : Stmt := top 14
theorem sc__law_cells : FnScope ["script", "most", "cells", "k", "cell", "spot"] ["script", "most"] (defScope s__law_cells) := ⟨rfl, rfl, rfl, by decide +kernel, rfl, by decide +kernel, by decide +kernel⟩
def F__law_cells (T : Tab) : FS :=
    (sSeq (sAs (eOrT (eBl bLst3 (aC (eSl (eV 0) oN (oS (eV 1))) aN)) (eLst (aC (eK (.int 0)) aN))) (gN 2))
      (sSeq (sFor (iOr (tupR (aC (eSl (eV 0) (oS (eV 1)) (oS (eK (.int 63)))) aN)) (iET (aC (eSl (eV 0) (oS (eV 1)) (oS (eK (.int 63)))) aN)) (iEL (aC (eSl (eV 0) (oS (eV 1)) (oS (eK (.int 63)))) aN))) (gTL 2 (gsC (gN 3) (gsC (gN 4) gsN))) (sSeq (sAs (e2 (gI (fun _ j => decide (0 < j)) fun i j => i % j) (eBl bInt (aC (eV 3) aN)) (eV 1)) (gN 5))
      (sSeq (sAs (e2 gAdd (e2 gIx2 (eV 2) (eV 5)) (e2 gMul (eV 4) (e2 gAdd (eV 3) (eK (.int 2))))) (gSb2 (eV 2) (eV 5)))
      sNil)))
      (sSeq (sRt (eV 2))
      sNil)))
abbrev s__law_same : Stmt := top 15
theorem sc__law_same : FnScope ["got", "goal", "mine", "own"] ["got", "goal"] (defScope s__law_same) := ⟨rfl, rfl, rfl, by decide +kernel, rfl, by decide +kernel, by decide +kernel⟩
def F__law_same (T : Tab) : FS :=
    (sSeq (sIf (asT (eIs2 Kd.list Kd.tuple (eV 1))) (sSeq (sIf (tOr' (asB (e2 (gEq true) (eIs Kd.list (eV 0)) (eIs Kd.list (eV 1)))) (asB (e2 (gEq true) (eIs Kd.tuple (eV 0)) (eIs Kd.tuple (eV 1))))) (sSeq (sRt (eK (.bl false)))
      sNil) sNil)
      (sSeq (sRt (eAn (e2 (gEq false) (eBl bLen3 (aC (eV 0) aN)) (eBl bLen3 (aC (eV 1) aN))) (eBl (bAllAny fun bs => bs.all id) (aC (eComp (.lst []) (iOr (ltR (aC (eV 0) (aC (eV 1) aN))) (iZMf (aC (eV 0) (aC (eV 1) aN))) (iZ (aC (eV 0) (aC (eV 1) aN)))) (gTL 2 (gsC (gN 2) (gsC (gN 3) gsN))) tYs (moreL (eCl 2 (T 11) (aC (eV 2) (aC (eV 3) aN)))) [2, 3]) aN))))
      sNil)) sNil)
      (sSeq (sIf (tOr' (asB (e2 (gIsN false) (eV 1) (eK .non))) (asT (eIs2 Kd.bool Kd.str (eV 1)))) (sSeq (sRt (eAn (e2 (gEq false) (eV 0) (eV 1)) (eAn (e2 (gEq false) (eIs Kd.bool (eV 0)) (eIs Kd.bool (eV 1))) (e2 (gEq false) (e2 (gIsN false) (eV 0) (eK .non)) (e2 (gIsN false) (eV 1) (eK .non))))))
      sNil) sNil)
      (sSeq (sRt (eAn (eIs Kd.int (eV 0)) (eAn (eNtT (eIs Kd.bool (eV 0))) (e2 (gEq false) (eV 0) (eV 1)))))
      sNil)))
abbrev s__law_lists : Stmt := top 16
theorem sc__law_lists : FnScope ["matter", "own"] ["matter"] (defScope s__law_lists) := ⟨rfl, rfl, rfl, by decide +kernel, rfl, by decide +kernel, by decide +kernel⟩
def F__law_lists (T : Tab) : FS :=
    (sSeq (sUn (sRt (eIf (asT (eIs2 Kd.list Kd.tuple (eV 0))) (eComp (.lst []) (iV3 (eV 0)) (gN 1) tYs (moreL (eCl 1 (T 12) (aC (eV 1) aN))) [1]) (eV 0))))
      sNil)
abbrev s__law_of : Stmt := top 17
theorem sc__law_of : FnScope ["tin", "goods"] ["tin", "goods"] (defScope s__law_of) := ⟨rfl, rfl, rfl, by decide +kernel, rfl, by decide +kernel, by decide +kernel⟩
def F__law_of (T : Tab) : FS :=
    (sSeq (sRt (e2 gIx2 (eV 1) (eCl 2 (T 9) (aC (eV 0) (aC (eBl bLen3 (aC (eV 1) aN)) aN)))))
      sNil)
abbrev s__law_tree : Stmt := top 18
theorem sc__law_tree : FnScope ["tin", "deep", "kind", "maker", "many", "lap"] ["tin", "deep", "kind"] (defScope s__law_tree) := ⟨rfl, rfl, rfl, by decide +kernel, rfl, by decide +kernel, by decide +kernel⟩
def F__law_tree (T : Tab) : FS :=
    (sSeq (sIf (tOr' (asB (e2 (gEq false) (eV 1) (eK (.int 0)))) (asB (e2 (gEq false) (eCl 2 (T 9) (aC (eV 0) (aC (eK (.int 4)) aN))) (eK (.int 0))))) (sSeq (sRt (eIf (asB (e2 (gEq false) (eV 2) (eK (.int 1)))) (eTup (aC (eK (.str "thing")) (aC (eCl 2 (T 9) (aC (eV 0) (aC (eK (.int 3)) aN))) aN))) (eCl 2 (T 13) (aC (eV 0) (aC (eLst (aC (eTup (aC (eK (.str "at")) (aC (eTup aN) aN))) (aC (eTup (aC (eK (.str "at")) (aC (eTup (aC (eK (.int 1)) aN)) aN))) (aC (eTup (aC (eK (.str "call")) (aC (eK (.int 0)) (aC (eTup (aC (eK (.int 0)) aN)) aN)))) aN)))) aN)))))
      sNil) sNil)
      (sSeq (sAs (eCl 2 (T 13) (aC (eV 0) (aC (eLst (aC (eK (.int 1)) (aC (eK (.int 1)) (aC (eK (.int 1)) (aC (eK (.int 2)) aN))))) aN))) (gN 3))
      (sSeq (sAs (eCl 2 (T 13) (aC (eV 0) (aC (eLst (aC (eK (.int 2)) (aC (eK (.int 2)) (aC (eK (.int 2)) (aC (eK (.int 2)) (aC (eK (.int 1)) (aC (eIf (asB (e2 (gEq false) (eV 1) (eK (.int 4)))) (eK (.int 3)) (eK (.int 2))) aN))))))) aN))) (gN 4))
      (sSeq (sRt (eTup (aC (eK (.str "make")) (aC (eV 3) (aC (eBl bTup (aC (eComp (.lst []) (iR1 (aC (eV 4) aN)) (gN 5) tYs (moreL (eCl 3 (T 14) (aC (eV 0) (aC (e2 (gI0 fun i j => i - j) (eV 1) (eK (.int 1))) (aC (eV 2) aN))))) [5]) aN)) aN)))))
      sNil))))
abbrev s__law_spots : Stmt := top 19
theorem sc__law_spots : FnScope ["tree", "maker", "found", "k", "own", "way"] ["tree", "maker"] (defScope s__law_spots) := ⟨rfl, rfl, rfl, by decide +kernel, rfl, by decide +kernel, by decide +kernel⟩
def F__law_spots (T : Tab) : FS :=
    (sSeq (sIf (asB (e2 (gEq true) (e2 gIx2 (eV 0) (eK (.int 0))) (eK (.str "make")))) (sSeq (sRt (eLst aN))
      sNil) sNil)
      (sSeq (sAs (eLst aN) (gN 2))
      (sSeq (sIf (tAn (asB (e2 (gEq false) (e2 gIx2 (eV 0) (eK (.int 1))) (eV 1))) (tAn (asB (e2 (gEq false) (eBl bLen3 (aC (e2 gIx2 (eV 0) (eK (.int 2))) aN)) (eK (.int 2)))) (asT (eCl 2 (T 16) (aC (e2 gIx2 (e2 gIx2 (eV 0) (eK (.int 2))) (eK (.int 0))) (aC (eV 1) aN)))))) (sSeq (sAs (eLst (aC (eTup aN) aN)) (gN 2))
      sNil) sNil)
      (sSeq (sFor (iOr (tupR (aC (e2 gIx2 (eV 0) (eK (.int 2))) aN)) (iET (aC (e2 gIx2 (eV 0) (eK (.int 2))) aN)) (iEL (aC (e2 gIx2 (eV 0) (eK (.int 2))) aN))) (gTL 2 (gsC (gN 3) (gsC (gN 4) gsN))) (sSeq (sUn (sAs (e2 gAdd (eV 2) (eLc (iV3 (eCl 2 (T 15) (aC (eV 4) (aC (eV 1) aN)))) (gN 5) tYs (e2 gAdd (eTup (aC (eV 3) aN)) (eV 5)) [5])) (gN 2)))
      sNil))
      (sSeq (sRt (eV 2))
      sNil)))))
abbrev s__law_is_two : Stmt := top 20
theorem sc__law_is_two : FnScope ["tree", "maker"] ["tree", "maker"] (defScope s__law_is_two) := ⟨rfl, rfl, rfl, by decide +kernel, rfl, by decide +kernel, by decide +kernel⟩
def F__law_is_two (T : Tab) : FS :=
    (sSeq (sRt (eAn (e2 (gEq false) (e2 gIx2 (eV 0) (eK (.int 0))) (eK (.str "make"))) (eAn (e2 (gEq false) (e2 gIx2 (eV 0) (eK (.int 1))) (eV 1)) (e2 (gEq false) (eBl bLen3 (aC (e2 gIx2 (eV 0) (eK (.int 2))) aN)) (eK (.int 2))))))
      sNil)
abbrev s__law_moved : Stmt := top 21
theorem sc__law_moved : FnScope ["tree", "way", "first", "last"] ["tree", "way"] (defScope s__law_moved) := ⟨rfl, rfl, rfl, by decide +kernel, rfl, by decide +kernel, by decide +kernel⟩
def F__law_moved (T : Tab) : FS :=
    (sSeq (sIf (asB (e2 (gEq true) (eV 1) (eTup aN))) (sSeq (sRt (e2 gAdd (eSl (eV 0) oN (oS (eK (.int 2)))) (eTup (aC (e2 gAdd (e2 gAdd (eSl (e2 gIx2 (eV 0) (eK (.int 2))) oN (oS (e2 gIx2 (eV 1) (eK (.int 0))))) (eTup (aC (eCl 2 (T 17) (aC (e2 gIx2 (e2 gIx2 (eV 0) (eK (.int 2))) (e2 gIx2 (eV 1) (eK (.int 0)))) (aC (eSl (eV 1) (oS (eK (.int 1))) oN) aN))) aN))) (eSl (e2 gIx2 (eV 0) (eK (.int 2))) (oS (e2 gAdd (e2 gIx2 (eV 1) (eK (.int 0))) (eK (.int 1)))) oN)) aN))))
      sNil) sNil)
      (sSeq (sAs (e2 gIx2 (eV 0) (eK (.int 2))) (gTL 2 (gsC (gN 2) (gsC (gN 3) gsN))))
      (sSeq (sRt (eTup (aC (eK (.str "make")) (aC (e2 gIx2 (eV 0) (eK (.int 1))) (aC (eTup (aC (e2 gIx2 (e2 gIx2 (eV 2) (eK (.int 2))) (eK (.int 0))) (aC (eTup (aC (eK (.str "make")) (aC (e2 gIx2 (eV 0) (eK (.int 1))) (aC (eTup (aC (e2 gIx2 (e2 gIx2 (eV 2) (eK (.int 2))) (eK (.int 1))) (aC (eV 3) aN))) aN)))) aN))) aN)))))
      sNil)))
abbrev s__law_all_moved : Stmt := top 22
theorem sc__law_all_moved : FnScope ["tin", "tree", "maker", "now", "lap", "ways"] ["tin", "tree", "maker"] (defScope s__law_all_moved) := ⟨rfl, rfl, rfl, by decide +kernel, rfl, by decide +kernel, by decide +kernel⟩
def F__law_all_moved (T : Tab) : FS :=
    (sSeq (sAs (eV 1) (gN 3))
      (sSeq (sFor (iR1 (aC (eK (.int 200)) aN)) (gN 4) (sSeq (sAs (eCl 2 (T 15) (aC (eV 3) (aC (eV 2) aN))) (gN 5))
      (sSeq (sIf (asB (e2 (gEq false) (eV 5) (eLst aN))) (sSeq (sRt (eV 3))
      sNil) sNil)
      (sSeq (sAs (eCl 2 (T 17) (aC (eV 3) (aC (eCl 2 (T 13) (aC (eV 0) (aC (eV 5) aN))) aN))) (gN 3))
      sNil))))
      (sSeq (sRt (eV 3))
      sNil)))
abbrev s__law_turned : Stmt := top 23
theorem sc__law_turned : FnScope ["tin", "tree", "maker", "parts", "own"] ["tin", "tree", "maker"] (defScope s__law_turned) := ⟨rfl, rfl, rfl, by decide +kernel, rfl, by decide +kernel, by decide +kernel⟩
def F__law_turned (T : Tab) : FS :=
    (sSeq (sIf (asB (e2 (gEq true) (e2 gIx2 (eV 1) (eK (.int 0))) (eK (.str "make")))) (sSeq (sRt (eV 1))
      sNil) sNil)
      (sSeq (sUn (sAs (eBl bTup (aC (eComp (.lst []) (iV3 (e2 gIx2 (eV 1) (eK (.int 2)))) (gN 4) tYs (moreL (eCl 3 (T 19) (aC (eV 0) (aC (eV 4) (aC (eV 2) aN))))) [4]) aN)) (gN 3)))
      (sSeq (sIf (tAn (asB (e2 (gEq false) (e2 gIx2 (eV 1) (eK (.int 1))) (eV 2))) (tAn (asB (e2 (gEq false) (eBl bLen3 (aC (eV 3) aN)) (eK (.int 2)))) (tAn (asT (eCl 2 (T 16) (aC (e2 gIx2 (eV 3) (eK (.int 1))) (aC (eV 2) aN)))) (asB (e2 (gEq false) (eCl 2 (T 9) (aC (eV 0) (aC (eK (.int 2)) aN))) (eK (.int 0))))))) (sSeq (sRt (eTup (aC (eK (.str "make")) (aC (eV 2) (aC (eTup (aC (eTup (aC (eK (.str "make")) (aC (eV 2) (aC (eTup (aC (e2 gIx2 (eV 3) (eK (.int 0))) (aC (e2 gIx2 (e2 gIx2 (e2 gIx2 (eV 3) (eK (.int 1))) (eK (.int 2))) (eK (.int 0))) aN))) aN)))) (aC (e2 gIx2 (e2 gIx2 (e2 gIx2 (eV 3) (eK (.int 1))) (eK (.int 2))) (eK (.int 1))) aN))) aN)))))
      sNil) sNil)
      (sSeq (sRt (eTup (aC (eK (.str "make")) (aC (e2 gIx2 (eV 1) (eK (.int 1))) (aC (eV 3) aN)))))
      sNil))))
abbrev s__law_bent : Stmt := top 24
theorem sc__law_bent : FnScope ["tin", "tree", "k"] ["tin", "tree"] (defScope s__law_bent) := ⟨rfl, rfl, rfl, by decide +kernel, rfl, by decide +kernel, by decide +kernel⟩
def F__law_bent (T : Tab) : FS :=
    (sSeq (sIf (asB (e2 (gEq true) (e2 gIx2 (eV 1) (eK (.int 0))) (eK (.str "make")))) (sSeq (sRt (eIf (asB (e2 (gEq true) (e2 gIx2 (eV 1) (eK (.int 0))) (eK (.str "thing")))) (eTup (aC (eK (.str "at")) (aC (eTup (aC (eK (.int 0)) (aC (eK (.int 0)) aN))) aN))) (eTup (aC (eK (.str "thing")) (aC (eK (.int 7)) aN)))))
      sNil) sNil)
      (sSeq (sAs (eCl 2 (T 9) (aC (eV 0) (aC (eBl bLen3 (aC (e2 gIx2 (eV 1) (eK (.int 2))) aN)) aN))) (gN 2))
      (sSeq (sRt (e2 gAdd (eSl (eV 1) oN (oS (eK (.int 2)))) (eTup (aC (e2 gAdd (e2 gAdd (eSl (e2 gIx2 (eV 1) (eK (.int 2))) oN (oS (eV 2))) (eTup (aC (eCl 2 (T 20) (aC (eV 0) (aC (e2 gIx2 (e2 gIx2 (eV 1) (eK (.int 2))) (eV 2)) aN))) aN))) (eSl (e2 gIx2 (eV 1) (eK (.int 2))) (oS (e2 gAdd (eV 2) (eK (.int 1)))) oN)) aN))))
      sNil)))
abbrev s__law_right : Stmt := top 25
theorem sc__law_right : FnScope ["tin", "kind", "maker", "tree", "due", "told", "other", "bent", "got"] ["tin"] (defScope s__law_right) := ⟨rfl, rfl, rfl, by decide +kernel, rfl, by decide +kernel, by decide +kernel⟩
def F__law_right (T : Tab) : FS :=
    (sSeq (sPar 1 2 (aC (eBl bInt (aC (e2 (gB0 fun i j => decide (j < i)) (eCl 2 (T 9) (aC (eV 0) (aC (eK (.int 4)) aN))) (eK (.int 0))) aN)) (aC (e2 gAdd (eK (.int 1)) (eCl 2 (T 9) (aC (eV 0) (aC (eK (.int 2)) aN)))) aN)))
      (sSeq (sAs (eCl 3 (T 14) (aC (eV 0) (aC (e2 gAdd (eK (.int 2)) (e2 gMul (eK (.int 2)) (eV 1))) (aC (eV 1) aN)))) (gN 3))
      (sSeq (sAs (eCl 3 (T 18) (aC (eV 0) (aC (eV 3) (aC (eV 2) aN)))) (gN 4))
      (sSeq (sAs (eCl 2 (T 5) (aC (eV 3) (aC (eV 2) aN))) (gN 5))
      (sSeq (sIf (tOr' (asB (e2 (gEq true) (eCl 2 (T 15) (aC (eV 4) (aC (eV 2) aN))) (eLst aN))) (tNt (asT (eCl 2 (T 11) (aC (eLst (aC (eV 5) (aC (eCl 2 (T 5) (aC (eCl 1 (T 12) (aC (eV 3) aN)) (aC (eV 2) aN))) (aC (eCl 2 (T 5) (aC (eV 4) (aC (eV 2) aN))) aN)))) (aC (eLst (aC (eV 4) (aC (eV 4) (aC (eV 4) aN)))) aN)))))) (sSeq (sRt (eK (.bl false)))
      sNil) sNil)
      (sSeq (sPar 6 7 (aC (eCl 3 (T 19) (aC (eV 0) (aC (eV 3) (aC (eV 2) aN)))) (aC (eCl 2 (T 20) (aC (eV 0) (aC (eV 3) aN))) aN)))
      (sSeq (sAs (eLst (aC (eCl 3 (T 7) (aC (eV 3) (aC (eV 6) (aC (eV 2) aN)))) (aC (eCl 3 (T 7) (aC (eCl 1 (T 12) (aC (eV 6) aN)) (aC (eV 3) (aC (eV 2) aN)))) (aC (eCl 3 (T 7) (aC (eV 3) (aC (eV 7) (aC (eV 2) aN)))) (aC (eCl 3 (T 7) (aC (eV 3) (aC (eV 6) (aC (eK (.int 3)) aN)))) aN))))) (gN 8))
      (sSeq (sIf (tNt (asT (eCl 2 (T 11) (aC (eV 8) (aC (eLst (aC (eK (.bl true)) (aC (eK (.bl true)) (aC (eK (.bl false)) (aC (e2 (gEq false) (eV 3) (eV 6)) aN))))) aN))))) (sSeq (sRt (eK (.bl false)))
      sNil) sNil)
      (sSeq (sRt (eOrT (e2 (gEq false) (eV 1) (eK (.int 0))) (e2 (gIsB false) (eCl 3 (T 7) (aC (eTup (aC (eK (.str "make")) (aC (eV 2) (aC (eTup (aC (eV 3) (aC (eV 7) aN))) aN)))) (aC (eTup (aC (eK (.str "make")) (aC (eV 2) (aC (eTup (aC (eV 7) (aC (eV 3) aN))) aN)))) (aC (eV 2) aN)))) (eK (.bl false)))))
      sNil)))))))))
abbrev s__law_by_hand_right : Stmt := top 26
theorem sc__law_by_hand_right : FnScope ["a", "b", "c", "d", "k", "left", "right", "within", "got", "due"] [] (defScope s__law_by_hand_right) := ⟨rfl, rfl, rfl, by decide +kernel, rfl, by decide +kernel, by decide +kernel⟩
def F__law_by_hand_right (T : Tab) : FS :=
    (sSeq (sAs (eLc (iR1 (aC (eK (.int 4)) aN)) (gN 4) tYs (eTup (aC (eK (.str "thing")) (aC (eV 4) aN))) [4]) (gTL 4 (gsC (gN 0) (gsC (gN 1) (gsC (gN 2) (gsC (gN 3) gsN))))))
      (sSeq (sPar 5 6 (aC (eTup (aC (eK (.str "make")) (aC (eK (.int 1)) (aC (eTup (aC (eTup (aC (eK (.str "make")) (aC (eK (.int 1)) (aC (eTup (aC (eTup (aC (eK (.str "make")) (aC (eK (.int 1)) (aC (eTup (aC (eV 0) (aC (eV 1) aN))) aN)))) (aC (eV 2) aN))) aN)))) (aC (eV 3) aN))) aN)))) (aC (eTup (aC (eK (.str "make")) (aC (eK (.int 1)) (aC (eTup (aC (eV 0) (aC (eTup (aC (eK (.str "make")) (aC (eK (.int 1)) (aC (eTup (aC (eV 1) (aC (eTup (aC (eK (.str "make")) (aC (eK (.int 1)) (aC (eTup (aC (eV 2) (aC (eV 3) aN))) aN)))) aN))) aN)))) aN))) aN)))) aN)))
      (sSeq (sAs (eTup (aC (eK (.str "make")) (aC (eK (.int 2)) (aC (eTup (aC (eTup (aC (eK (.str "make")) (aC (eK (.int 1)) (aC (eTup (aC (eTup (aC (eK (.str "make")) (aC (eK (.int 1)) (aC (eTup (aC (eV 0) (aC (eV 1) aN))) aN)))) (aC (eV 2) aN))) aN)))) aN)) aN)))) (gN 7))
      (sSeq (sAs (eLst (aC (eCl 2 (T 5) (aC (eV 5) (aC (eK (.int 1)) aN))) (aC (eCl 2 (T 5) (aC (eV 7) (aC (eK (.int 1)) aN))) (aC (eCl 2 (T 5) (aC (eTup (aC (eK (.str "make")) (aC (eK (.int 1)) (aC (eTup (aC (eTup (aC (eK (.str "make")) (aC (eK (.int 1)) (aC (eTup (aC (eV 0) (aC (eV 1) aN))) aN)))) (aC (eV 2) (aC (eV 3) aN)))) aN)))) (aC (eK (.int 1)) aN))) (aC (eCl 3 (T 7) (aC (eV 5) (aC (eV 6) (aC (eK (.int 1)) aN)))) (aC (eCl 3 (T 7) (aC (eV 5) (aC (eV 6) (aC (eK (.int 2)) aN)))) aN)))))) (gN 8))
      (sSeq (sAs (eLst (aC (eV 6) (aC (eTup (aC (eK (.str "make")) (aC (eK (.int 2)) (aC (eTup (aC (eTup (aC (eK (.str "make")) (aC (eK (.int 1)) (aC (eTup (aC (eV 0) (aC (eTup (aC (eK (.str "make")) (aC (eK (.int 1)) (aC (eTup (aC (eV 1) (aC (eV 2) aN))) aN)))) aN))) aN)))) aN)) aN)))) (aC (eTup (aC (eK (.str "make")) (aC (eK (.int 1)) (aC (eTup (aC (eTup (aC (eK (.str "make")) (aC (eK (.int 1)) (aC (eTup (aC (eV 0) (aC (eV 1) aN))) aN)))) (aC (eV 2) (aC (eV 3) aN)))) aN)))) (aC (eK (.bl true)) (aC (eK (.bl false)) aN)))))) (gN 9))
      (sSeq (sRt (eCl 2 (T 11) (aC (eV 8) (aC (eV 9) aN))))
      sNil))))))
abbrev s_law : Stmt := top 27
theorem sc_law : FnScope ["script"] ["script"] (defScope s_law) := ⟨rfl, rfl, rfl, by decide +kernel, rfl, by decide +kernel, by decide +kernel⟩
def F_law (T : Tab) : FS :=
    (sSeq (sRt (eAn (eCl0 (T 22)) (eCl 1 (T 21) (aC (eCl 2 (T 8) (aC (eCl 2 (T 10) (aC (eV 0) (aC (eK (.int 1)) aN))) (aC (eK (.int 0)) aN))) aN))))
      sNil)
def t_24 : CTx := ⟨"combed.<locals>.<lambda>", lamS (eArg (sVal (sAt (defBody s_combed) 0)) 1), .expr (lamB (eArg (sVal (sAt (defBody s_combed) 0)) 1)), ["part"], []⟩
theorem S_24 : NdefX.NScope ["part"] ["part"] [] t_24.scope := NdefX.nscope_by (by decide +kernel)
def F_l24 (T : Tab) : FS :=
    sRt (eV 0)
def t_25 : CTx := ⟨"combed.<locals>.<lambda>", lamS (eArg (sVal (sAt (defBody s_combed) 0)) 2), .expr (lamB (eArg (sVal (sAt (defBody s_combed) 0)) 2)), ["own", "terms"], ["maker"]⟩
theorem S_25 : NdefX.NScope ["own", "terms", "maker"] ["own", "terms"] ["maker"] t_25.scope := NdefX.nscope_by (by decide +kernel)
def F_l25 (T : Tab) : FS :=
    sRt (eCl 3 (T 6) (aC (eV 0) (aC (eV 1) (aC (eV 2) aN))))
def NM : List (Pos × Str) := [(lamPos (eArg (sVal (sAt (defBody s_combed) 0)) 1), "combed.<locals>.<lambda>"), (lamPos (eArg (sVal (sAt (defBody s_combed) 0)) 2), "combed.<locals>.<lambda>")]
def TX : List (Nat × CTx) := [(24, t_24), (25, t_25)]
def bodies (T : Tab) : BT := (.nd (some (frm (runB 9 (F_frozen T)))) (.nd (some (frm (runB 4 (F__holds_list T)))) (.nd (some (runB 7 (F_folded T))) (.nd (some (frm (runB 3 (F_alike_by T)))) (.nd (some (runB 6 (F__law_spots T))) .lf .lf) (.nd (some (runB 1 (F_law T))) .lf .lf)) (.nd (some (frm (runB 4 (F__law_same T)))) (.nd (some (runB 5 (F__law_turned T))) .lf .lf) .lf)) (.nd (some (frm (runB 2 (F_combed T)))) (.nd (some (runB 6 (F__law_take T))) (.nd (some (frm (runB 4 (F__law_moved T)))) .lf .lf) (.nd (some (arG 3 (runB 3 (F_l25 T)))) .lf .lf)) (.nd (some (runB 2 (F__law_of T))) (.nd (some (runB 9 (F__law_right T))) .lf .lf) .lf))) (.nd (some (runB 4 (F_occurrences T))) (.nd (some (frm (runB 2 (F_making T)))) (.nd (some (runB 3 (F__law_box T))) (.nd (some (frm (runB 2 (F__law_is_two T)))) .lf .lf) (.nd (some (arG 1 (runB 1 (F_l24 T)))) .lf .lf)) (.nd (some (runB 2 (F__law_lists T))) (.nd (some (runB 3 (F__law_bent T))) .lf .lf) .lf)) (.nd (some (runB 7 (F__combed_making T))) (.nd (some (runB 6 (F__law_cells T))) (.nd (some (runB 6 (F__law_all_moved T))) .lf .lf) .lf) (.nd (some (runB 6 (F__law_tree T))) (.nd (some (frm (runB 10 (F__law_by_hand_right T)))) .lf .lf) .lf))))
def callE : Nat → Tab
  | 0 => fun _ _ _ => .no
  | d + 1 => (bodies (callE d)).get
theorem callE_at (k d : Nat) : callE (d + 1) k = (bodies (callE d)).get k := rfl
structure Ds (P : Program) (w : World) (K : PySem.W.Frag) (mg : Str → Option Value) (base : Heap) (G : GC) (cl : Cls) (T : Tab) (d : Nat) : Prop where
  d0 : DfE P w K mg base G cl "frozen" ["value"] (2 * d + 2) (T 0)
  d1 : DfE P w K mg base G cl "_holds_list" ["value"] (2 * d + 2) (T 1)
  d2 : DfE P w K mg base G cl "occurrences" ["term"] (2 * d + 2) (T 2)
  d3 : DfE P w K mg base G cl "folded" ["term", "of_leaf", "of_make"] (2 * d + 2) (T 3)
  d4 : DfE P w K mg base G cl "making" ["maker", "terms"] (2 * d + 2) (T 4)
  d5 : DfE P w K mg base G cl "combed" ["one", "maker"] (2 * d + 2) (T 5)
  d6 : DfE P w K mg base G cl "_combed_making" ["own", "terms", "maker"] (2 * d + 2) (T 6)
  d7 : DfE P w K mg base G cl "alike_by" ["one", "other", "maker"] (2 * d + 2) (T 7)
  d8 : DfE P w K mg base G cl "_law_box" ["script", "k"] (2 * d + 2) (T 8)
  d9 : DfE P w K mg base G cl "_law_take" ["tin", "below"] (2 * d + 2) (T 9)
  d10 : DfE P w K mg base G cl "_law_cells" ["script", "most"] (2 * d + 2) (T 10)
  d11 : DfE P w K mg base G cl "_law_same" ["got", "goal"] (2 * d + 2) (T 11)
  d12 : DfE P w K mg base G cl "_law_lists" ["matter"] (2 * d + 2) (T 12)
  d13 : DfE P w K mg base G cl "_law_of" ["tin", "goods"] (2 * d + 2) (T 13)
  d14 : DfE P w K mg base G cl "_law_tree" ["tin", "deep", "kind"] (2 * d + 2) (T 14)
  d15 : DfE P w K mg base G cl "_law_spots" ["tree", "maker"] (2 * d + 2) (T 15)
  d16 : DfE P w K mg base G cl "_law_is_two" ["tree", "maker"] (2 * d + 2) (T 16)
  d17 : DfE P w K mg base G cl "_law_moved" ["tree", "way"] (2 * d + 2) (T 17)
  d18 : DfE P w K mg base G cl "_law_all_moved" ["tin", "tree", "maker"] (2 * d + 2) (T 18)
  d19 : DfE P w K mg base G cl "_law_turned" ["tin", "tree", "maker"] (2 * d + 2) (T 19)
  d20 : DfE P w K mg base G cl "_law_bent" ["tin", "tree"] (2 * d + 2) (T 20)
  d21 : DfE P w K mg base G cl "_law_right" ["tin"] (2 * d + 2) (T 21)
  d22 : DfE P w K mg base G cl "_law_by_hand_right" [] (2 * d + 2) (T 22)
  d23 : DfE P w K mg base G cl "law" ["script"] (2 * d + 2) (T 23)
  cal : Cal P w K mg base G cl (2 * d + 2) T
end L37
namespace L37
open PySem PySem.Spec PyProof.Rows L2 EV
section
variable {P : Program} {w : World} {K : PySem.W.Frag} {mg : Str → Option Value} {base : Heap} {G : GC} {cl : Cls} {T : Tab} {d : Nat} {f : Addr} {fd : FuncData}
theorem ok_frozen (F : Fun K "frozen" "frozen" s_frozen f fd) (hK : K = G.K) (hP : P = G.prog) (hW : w = G.wo) (hX : GX G NM TX) (D : Ds P w K mg base G cl T d) (m_isinstance : mg "isinstance" = none) (m_len : mg "len" = none) (m_list : mg "list" = none) (m_reversed : mg "reversed" = none) (m_tuple : mg "tuple" = none) : FnE P w K mg base (2 * d + 3 + 1) f fd ["value"] G cl (frm (runB 9 (F_frozen T))) :=
  FnE.frm (ok_E F sc_frozen fun cdv A outer s H E hr => by
    have hu := hr.units
    exact (ss_cons (ss_if (st_not (st_tru hK (se_call D.d1 (takes_of rfl rfl rfl rfl) (hr.mono (Nat.le_succ _)) rfl (sa_cons (se_w 0) sa_nil rfl) (by decide) rfl rfl rfl) (by intro _; rfl))) (ss_cons (ss_ret (se_w 0))
      ss_nil) ss_nil)
      (ss_cons (ss_par (i := 1) (j := 2) rfl sc_frozen.nd rfl rfl (by decide) rfl rfl (sa_cons (se_lst sa_nil) (sa_cons (se_lst (sa_cons (se_w 0) sa_nil rfl)) sa_nil rfl) rfl) (by rfl) (by rfl))
      (ss_cons (ss_while (passes_of rfl) (st_tru hK (se_w 2) (by intro _; rfl)) (ss_cons (ss_set (i := 3) sc_frozen.nd rfl (by first | exact Or.inl rfl | exact Or.inr rfl) (se_mt0 hK PySem.F.plainAttrs_list PySem.F.slot_list_pop PySem.F.type_list_pop mt_pop ms_pop (se_w 2) rfl rfl) rfl (by first | exact Or.inl rfl | exact Or.inr rfl))
      (ss_cons (ss_un (ss_lc (i := 4) (own := [("part", 5)]) rfl sc_frozen.nd rfl rfl (sw_true rfl rfl rfl (by decide +kernel)) (si_v3 hK (se_w 3)) (blkOk_by (own := [("part", 5)]) (show blkC ["value", "wholes", "waiting", "whole", "within", "part", "done", "many", "items"] (defScope s_frozen) _ _ = true by decide +kernel)) (fun _ _ _ _ _ => (sg_n (pg_name (i := 5) sc_frozen.nd rfl (by first | exact Or.inl rfl | exact Or.inr rfl)))) (fun _ _ _ _ _ => sts_one (st_tru hK (se_isi2 (t := Kd.list) (t' := Kd.tuple) hK m_isinstance rfl (se_w 5) (pe_bltn rfl m_list (by decide +kernel) rfl) (pe_bltn rfl m_tuple (by decide +kernel) rfl) rfl rfl rfl rfl rfl) (by intro _; rfl))) (fun _ _ _ _ _ => (se_w 5)) (by decide) (by intro _; rfl)))
      (ss_cons (ss_expr (se_mt hK PySem.F.plainAttrs_list PySem.F.slot_list_append PySem.F.type_list_append mt_append ms_app (se_w 1) (sa_cons (se_tup (sa_cons (se_w 3) (sa_cons (se_len3 hK ⟨hP, hW⟩ m_len rfl (sa_cons (se_w 4) sa_nil rfl) rfl rfl) sa_nil rfl) rfl)) sa_nil rfl) rfl rfl rfl rfl rfl) rfl)
      (ss_cons (ss_expr (se_ext hK (se_w 2) (sa_cons (se_rev2 hK (se_w 4)) sa_nil rfl) rfl rfl rfl rfl rfl) rfl)
      ss_nil)))))
      (ss_cons (ss_set (i := 6) sc_frozen.nd rfl (by first | exact Or.inl rfl | exact Or.inr rfl) (se_lst sa_nil) rfl (by first | exact Or.inl rfl | exact Or.inr rfl))
      (ss_cons (ss_for (passes_of rfl) rfl (si_rev hK rfl m_reversed (se_w 1) rfl) (sg_tl hK (n := 2) rfl (sgs_cons (sg_n (pg_name (i := 3) sc_frozen.nd rfl (by first | exact Or.inl rfl | exact Or.inr rfl))) (sgs_cons (sg_n (pg_name (i := 7) sc_frozen.nd rfl (by first | exact Or.inl rfl | exact Or.inr rfl))) sgs_nil rfl) rfl) rfl rfl) (ss_cons (ss_if (st_eq hK hu (se_w 7) se_int) (ss_cons (ss_expr (se_mt hK PySem.F.plainAttrs_list PySem.F.slot_list_append PySem.F.type_list_append mt_append ms_app (se_w 6) (sa_cons (se_tupOf hK m_tuple rfl (sa_cons (se_w 3) sa_nil rfl) rfl rfl) sa_nil rfl) rfl rfl rfl rfl rfl) rfl)
      ss_nil) (ss_cons (ss_un (ss_lc (i := 8) (own := [("part", 5)]) rfl sc_frozen.nd rfl rfl (sw_true rfl rfl rfl (by decide +kernel)) (si_v3 hK (se_w 3)) (blkOk_by (own := [("part", 5)]) (show blkC ["value", "wholes", "waiting", "whole", "within", "part", "done", "many", "items"] (defScope s_frozen) _ _ = true by decide +kernel)) (fun _ _ _ _ _ => (sg_n (pg_name (i := 5) sc_frozen.nd rfl (by first | exact Or.inl rfl | exact Or.inr rfl)))) (fun _ _ _ _ _ => sts_nil) (fun _ _ _ _ _ => (se_if (st_tru hK (se_isi2 (t := Kd.list) (t' := Kd.tuple) hK m_isinstance rfl (se_w 5) (pe_bltn rfl m_list (by decide +kernel) rfl) (pe_bltn rfl m_tuple (by decide +kernel) rfl) rfl rfl rfl rfl rfl) (by intro _; rfl)) (se_mt0 hK PySem.F.plainAttrs_list PySem.F.slot_list_pop PySem.F.type_list_pop mt_pop ms_pop (se_w 6) rfl rfl) (se_w 5))) (by decide) (by intro _; rfl)))
      (ss_cons (ss_expr (se_mt hK PySem.F.plainAttrs_list PySem.F.slot_list_append PySem.F.type_list_append mt_append ms_app (se_w 6) (sa_cons (se_tupOf hK m_tuple rfl (sa_cons (se_w 8) sa_nil rfl) rfl rfl) sa_nil rfl) rfl rfl rfl rfl rfl) rfl)
      ss_nil)))
      ss_nil) (by intro _; rfl))
      (ss_cons (ss_ret (se_ix2 hK ⟨hP, hW⟩ (room65 hr) (se_w 6) se_int (by exact fun _ _ => rfl)))
      ss_nil)))))))
theorem ok__holds_list (F : Fun K "_holds_list" "_holds_list" s__holds_list f fd) (hK : K = G.K) (hP : P = G.prog) (hW : w = G.wo) (hX : GX G NM TX) (D : Ds P w K mg base G cl T d) (m_isinstance : mg "isinstance" = none) (m_list : mg "list" = none) (m_tuple : mg "tuple" = none) : FnE P w K mg base (2 * d + 3 + 1) f fd ["value"] G cl (frm (runB 4 (F__holds_list T))) :=
  FnE.frm (ok_E F sc__holds_list fun cdv A outer s H E hr => by
    have hu := hr.units
    exact (ss_cons (ss_if (st_not (st_tru hK (se_isi (t := Kd.tuple) hK m_isinstance rfl (se_w 0) (pe_bltn rfl m_tuple (by decide +kernel) rfl) rfl rfl rfl) (by intro _; rfl))) (ss_cons (ss_ret (se_isi (t := Kd.list) hK m_isinstance rfl (se_w 0) (pe_bltn rfl m_list (by decide +kernel) rfl) rfl rfl rfl))
      ss_nil) ss_nil)
      (ss_cons (ss_set (i := 1) sc__holds_list.nd rfl (by first | exact Or.inl rfl | exact Or.inr rfl) (se_lst (sa_cons (se_w 0) sa_nil rfl)) rfl (by first | exact Or.inl rfl | exact Or.inr rfl))
      (ss_cons (ss_while (passes_of rfl) (st_tru hK (se_w 1) (by intro _; rfl)) (ss_cons (ss_set (i := 2) sc__holds_list.nd rfl (by first | exact Or.inl rfl | exact Or.inr rfl) (se_mt0 hK PySem.F.plainAttrs_list PySem.F.slot_list_pop PySem.F.type_list_pop mt_pop ms_pop (se_w 1) rfl rfl) rfl (by first | exact Or.inl rfl | exact Or.inr rfl))
      (ss_cons (ss_un (ss_for (passes_of rfl) rfl (si_v3 hK (se_w 2)) (sg_n (pg_name (i := 3) sc__holds_list.nd rfl (by first | exact Or.inl rfl | exact Or.inr rfl))) (ss_cons (ss_if (st_tru hK (se_isi (t := Kd.tuple) hK m_isinstance rfl (se_w 3) (pe_bltn rfl m_tuple (by decide +kernel) rfl) rfl rfl rfl) (by intro _; rfl)) (ss_cons (ss_expr (se_mt hK PySem.F.plainAttrs_list PySem.F.slot_list_append PySem.F.type_list_append mt_append ms_app (se_w 1) (sa_cons (se_w 3) sa_nil rfl) rfl rfl rfl rfl rfl) rfl)
      ss_nil) (ss_cons (ss_if (st_tru hK (se_isi (t := Kd.list) hK m_isinstance rfl (se_w 3) (pe_bltn rfl m_list (by decide +kernel) rfl) rfl rfl rfl) (by intro _; rfl)) (ss_cons (ss_ret se_bl)
      ss_nil) ss_nil)
      ss_nil))
      ss_nil) (by intro _; rfl)))
      ss_nil)))
      (ss_cons (ss_ret se_bl)
      ss_nil)))))
theorem ok_occurrences (F : Fun K "occurrences" "occurrences" s_occurrences f fd) (hK : K = G.K) (hP : P = G.prog) (hW : w = G.wo) (hX : GX G NM TX) (D : Ds P w K mg base G cl T d) : FnE P w K mg base (2 * d + 3 + 1) f fd ["term"] G cl (runB 4 (F_occurrences T)) :=
  ok_E F sc_occurrences fun cdv A outer s H E hr => by
    have hu := hr.units
    exact (ss_cons (ss_par (i := 1) (j := 2) rfl sc_occurrences.nd rfl rfl (by decide) rfl rfl (sa_cons (se_lst sa_nil) (sa_cons (se_lst (sa_cons (se_w 0) sa_nil rfl)) sa_nil rfl) rfl) (by rfl) (by rfl))
      (ss_cons (ss_while (passes_of rfl) (st_tru hK (se_w 2) (by intro _; rfl)) (ss_cons (ss_set (i := 3) sc_occurrences.nd rfl (by first | exact Or.inl rfl | exact Or.inr rfl) (se_mt0 hK PySem.F.plainAttrs_list PySem.F.slot_list_pop PySem.F.type_list_pop mt_pop ms_pop (se_w 2) rfl rfl) rfl (by first | exact Or.inl rfl | exact Or.inr rfl))
      (ss_cons (ss_expr (se_mt hK PySem.F.plainAttrs_list PySem.F.slot_list_append PySem.F.type_list_append mt_append ms_app (se_w 1) (sa_cons (se_w 3) sa_nil rfl) rfl rfl rfl rfl rfl) rfl)
      (ss_cons (ss_if (st_eq hK hu (se_ix2 hK ⟨hP, hW⟩ (room65 hr) (se_w 3) se_int (by exact fun _ _ => rfl)) se_str) (ss_cons (ss_expr (se_ext hK (se_w 2) (sa_cons (se_ix2 hK ⟨hP, hW⟩ (room65 hr) (se_w 3) se_int (by exact fun _ _ => rfl)) sa_nil rfl) rfl rfl rfl rfl rfl) rfl)
      ss_nil) ss_nil)
      ss_nil))))
      (ss_cons (ss_expr (se_mt0 hK PySem.F.plainAttrs_list PySem.F.slot_list_reverse PySem.F.type_list_reverse mt_reverse ms_rev (se_w 1) rfl rfl) rfl)
      (ss_cons (ss_ret (se_w 1))
      ss_nil))))
theorem ok_folded (F : Fun K "folded" "folded" s_folded f fd) (hK : K = G.K) (hP : P = G.prog) (hW : w = G.wo) (hX : GX G NM TX) (D : Ds P w K mg base G cl T d) (m_len : mg "len" = none) : FnE P w K mg base (2 * d + 3 + 1) f fd ["term", "of_leaf", "of_make"] G cl (runB 7 (F_folded T)) :=
  ok_E F sc_folded fun cdv A outer s H E hr => by
    have hu := hr.units
    exact (ss_cons (ss_set (i := 3) sc_folded.nd rfl (by first | exact Or.inl rfl | exact Or.inr rfl) (se_lst sa_nil) rfl (by first | exact Or.inl rfl | exact Or.inr rfl))
      (ss_cons (ss_un (ss_for (passes_of rfl) rfl (si_v3 hK (se_call D.d2 (takes_of rfl rfl rfl rfl) (hr.mono (Nat.le_succ _)) rfl (sa_cons (se_w 0) sa_nil rfl) (by decide) rfl rfl rfl)) (sg_n (pg_name (i := 4) sc_folded.nd rfl (by first | exact Or.inl rfl | exact Or.inr rfl))) (ss_cons (ss_if (st_eq hK hu (se_ix2 hK ⟨hP, hW⟩ (room65 hr) (se_w 4) se_int (by exact fun _ _ => rfl)) se_str) (ss_cons (ss_set (i := 5) sc_folded.nd rfl (by first | exact Or.inl rfl | exact Or.inr rfl) (se_sub (se_len3 hK ⟨hP, hW⟩ m_len rfl (sa_cons (se_w 3) sa_nil rfl) rfl rfl) (se_len3 hK ⟨hP, hW⟩ m_len rfl (sa_cons (se_ix2 hK ⟨hP, hW⟩ (room65 hr) (se_w 4) se_int (by exact fun _ _ => rfl)) sa_nil rfl) rfl rfl)) rfl (by first | exact Or.inl rfl | exact Or.inr rfl))
      (ss_cons (ss_set (i := 6) sc_folded.nd rfl (by first | exact Or.inl rfl | exact Or.inr rfl) (se_callV (i := 2) D.cal rfl rfl (takes_of rfl rfl rfl rfl) (hr.mono (Nat.le_succ _)) rfl (by first | exact Or.inl rfl | exact Or.inr (Or.inl rfl) | exact Or.inr (Or.inr rfl)) (sa_cons (se_ix2 hK ⟨hP, hW⟩ (room65 hr) (se_w 4) se_int (by exact fun _ _ => rfl)) (sa_cons (se_sl hK (se_w 3) (so_some (se_w 5)) so_none) sa_nil rfl) rfl) (by decide) (by decide) rfl rfl) rfl (by first | exact Or.inl rfl | exact Or.inr rfl))
      (ss_cons (ss_delS (se_w 3) (so_some (se_w 5)))
      (ss_cons (ss_expr (se_mt hK PySem.F.plainAttrs_list PySem.F.slot_list_append PySem.F.type_list_append mt_append ms_app (se_w 3) (sa_cons (se_w 6) sa_nil rfl) rfl rfl rfl rfl rfl) rfl)
      ss_nil)))) (ss_cons (ss_expr (se_mt hK PySem.F.plainAttrs_list PySem.F.slot_list_append PySem.F.type_list_append mt_append ms_app (se_w 3) (sa_cons (se_callV (i := 1) D.cal rfl rfl (takes_of rfl rfl rfl rfl) (hr.mono (Nat.le_succ _)) rfl (by first | exact Or.inl rfl | exact Or.inr (Or.inl rfl) | exact Or.inr (Or.inr rfl)) (sa_cons (se_w 4) sa_nil rfl) (by decide) (by decide) rfl rfl) sa_nil rfl) rfl rfl rfl rfl rfl) rfl)
      ss_nil))
      ss_nil) (by intro _; rfl)))
      (ss_cons (ss_ret (se_ix2 hK ⟨hP, hW⟩ (room65 hr) (se_w 3) se_int (by exact fun _ _ => rfl)))
      ss_nil)))
theorem ok_making (F : Fun K "making" "making" s_making f fd) (hK : K = G.K) (hP : P = G.prog) (hW : w = G.wo) (hX : GX G NM TX) (D : Ds P w K mg base G cl T d) (m_tuple : mg "tuple" = none) : FnE P w K mg base (2 * d + 3 + 1) f fd ["maker", "terms"] G cl (frm (runB 2 (F_making T))) :=
  FnE.frm (ok_E F sc_making fun cdv A outer s H E hr => by
    have hu := hr.units
    exact (ss_cons (ss_ret (se_tup (sa_cons se_str (sa_cons (se_w 0) (sa_cons (se_tupOf hK m_tuple rfl (sa_cons (se_w 1) sa_nil rfl) rfl rfl) sa_nil rfl) rfl) rfl)))
      ss_nil))
theorem ok_combed {c Pt : Addr} (F : FunC K "combed" "combed" s_combed f fd c) (TB : GxR.TabB base mg c Pt) (hL : Pt ∈ G.ltabs) (hK : K = G.K) (hP : P = G.prog) (hW : w = G.wo) (hX : GX G NM TX) (D : Ds P w K mg base G cl T d) : FnE P w K mg base (2 * d + 3 + 1) f fd ["one", "maker"] G cl (frm (runB 2 (F_combed T))) :=
  FnE.frm (ok_EC F sc_combed fun A outer s H E hr => by
    have hu := hr.units
    exact (ss_cons (ss_ret (se_callC D.d3 rfl rfl (fun _ => rfl) (takes_of rfl rfl rfl rfl) (hr.mono (Nat.le_succ _)) rfl (sac_cons (se_call D.d0 (takes_of rfl rfl rfl rfl) (hr.mono (Nat.le_succ _)) rfl (sa_cons (se_w 0) sa_nil rfl) (by decide) rfl rfl rfl) (sac_l (sl_lam (k := 24) (t := t_24) (js := []) TB rfl hL (by rw [hX.tx]; rfl) rfl rfl rfl (by rw [hX.nm]; rfl) rfl (capsB_by (show NdefX.ndefB (defScope s_combed) t_24.scope t_24.fr = true by decide +kernel) rfl) (fun _ _ _ _ us hl => match us, hl with | [_], _ => rfl) (sl_lam (k := 25) (t := t_25) (js := [1]) TB rfl hL (by rw [hX.tx]; rfl) rfl rfl rfl (by rw [hX.nm]; rfl) rfl (capsB_by (show NdefX.ndefB (defScope s_combed) t_25.scope t_25.fr = true by decide +kernel) rfl) (fun _ _ _ _ us hl => match us, hl with | [_, _], _ => rfl) sl_nil rfl) rfl)) rfl) (by decide) rfl rfl rfl))
      ss_nil))
theorem ok__combed_making (F : Fun K "_combed_making" "_combed_making" s__combed_making f fd) (hK : K = G.K) (hP : P = G.prog) (hW : w = G.wo) (hX : GX G NM TX) (D : Ds P w K mg base G cl T d) (m_len : mg "len" = none) : FnE P w K mg base (2 * d + 3 + 1) f fd ["own", "terms", "maker"] G cl (runB 7 (F__combed_making T)) :=
  ok_E F sc__combed_making fun cdv A outer s H E hr => by
    have hu := hr.units
    exact (ss_cons (ss_if (SW.st (sw_or (st_ne hK hu (se_w 0) (se_w 2)) (sw_or1 (st_ne hK hu (se_len3 hK ⟨hP, hW⟩ m_len rfl (sa_cons (se_w 1) sa_nil rfl) rfl rfl) se_int)))) (ss_cons (ss_ret (se_call D.d4 (takes_of rfl rfl rfl rfl) (hr.mono (Nat.le_succ _)) rfl (sa_cons (se_w 0) (sa_cons (se_w 1) sa_nil rfl) rfl) (by decide) rfl rfl rfl))
      ss_nil) ss_nil)
      (ss_cons (ss_par (i := 3) (j := 4) rfl sc__combed_making.nd rfl rfl (by decide) rfl rfl (sa_cons (se_lst sa_nil) (sa_cons (se_ix2 hK ⟨hP, hW⟩ (room65 hr) (se_w 1) se_int (by exact fun _ _ => rfl)) sa_nil rfl) rfl) (by rfl) (by rfl))
      (ss_cons (ss_while (passes_of rfl) (SW.st (sw_and (st_eq hK hu (se_ix2 hK ⟨hP, hW⟩ (room65 hr) (se_w 4) se_int (by exact fun _ _ => rfl)) se_str) (sw_and (st_eq hK hu (se_ix2 hK ⟨hP, hW⟩ (room65 hr) (se_w 4) se_int (by exact fun _ _ => rfl)) (se_w 2)) (sw_and1 (st_eq hK hu (se_len3 hK ⟨hP, hW⟩ m_len rfl (sa_cons (se_ix2 hK ⟨hP, hW⟩ (room65 hr) (se_w 4) se_int (by exact fun _ _ => rfl)) sa_nil rfl) rfl rfl) se_int))))) (ss_cons (ss_expr (se_mt hK PySem.F.plainAttrs_list PySem.F.slot_list_append PySem.F.type_list_append mt_append ms_app (se_w 3) (sa_cons (se_ix2 hK ⟨hP, hW⟩ (room65 hr) (se_ix2 hK ⟨hP, hW⟩ (room65 hr) (se_w 4) se_int (by exact fun _ _ => rfl)) se_int (by exact fun _ _ => rfl)) sa_nil rfl) rfl rfl rfl rfl rfl) rfl)
      (ss_cons (ss_set (i := 4) sc__combed_making.nd rfl (by first | exact Or.inl rfl | exact Or.inr rfl) (se_ix2 hK ⟨hP, hW⟩ (room65 hr) (se_ix2 hK ⟨hP, hW⟩ (room65 hr) (se_w 4) se_int (by exact fun _ _ => rfl)) se_int (by exact fun _ _ => rfl)) rfl (by first | exact Or.inl rfl | exact Or.inr rfl))
      ss_nil)))
      (ss_cons (ss_set (i := 5) sc__combed_making.nd rfl (by first | exact Or.inl rfl | exact Or.inr rfl) (se_ix2 hK ⟨hP, hW⟩ (room65 hr) (se_w 1) se_int (by exact fun _ _ => rfl)) rfl (by first | exact Or.inl rfl | exact Or.inr rfl))
      (ss_cons (ss_un (ss_for (passes_of rfl) rfl (si_v3 hK (se_add hK (se_lst (sa_cons (se_w 4) sa_nil rfl)) (se_rev2 hK (se_w 3)))) (sg_n (pg_name (i := 6) sc__combed_making.nd rfl (by first | exact Or.inl rfl | exact Or.inr rfl))) (ss_cons (ss_set (i := 5) sc__combed_making.nd rfl (by first | exact Or.inl rfl | exact Or.inr rfl) (se_call D.d4 (takes_of rfl rfl rfl rfl) (hr.mono (Nat.le_succ _)) rfl (sa_cons (se_w 2) (sa_cons (se_tup (sa_cons (se_w 6) (sa_cons (se_w 5) sa_nil rfl) rfl)) sa_nil rfl) rfl) (by decide) rfl rfl rfl) rfl (by first | exact Or.inl rfl | exact Or.inr rfl))
      ss_nil) (by intro _; rfl)))
      (ss_cons (ss_ret (se_w 5))
      ss_nil))))))
theorem ok_alike_by (F : Fun K "alike_by" "alike_by" s_alike_by f fd) (hK : K = G.K) (hP : P = G.prog) (hW : w = G.wo) (hX : GX G NM TX) (D : Ds P w K mg base G cl T d) : FnE P w K mg base (2 * d + 3 + 1) f fd ["one", "other", "maker"] G cl (frm (runB 3 (F_alike_by T))) :=
  FnE.frm (ok_E F sc_alike_by fun cdv A outer s H E hr => by
    have hu := hr.units
    exact (ss_cons (ss_ret (se_eq hK hu (se_call D.d5 (takes_of rfl rfl rfl rfl) (hr.mono (Nat.le_succ _)) rfl (sa_cons (se_w 0) (sa_cons (se_w 2) sa_nil rfl) rfl) (by decide) rfl rfl rfl) (se_call D.d5 (takes_of rfl rfl rfl rfl) (hr.mono (Nat.le_succ _)) rfl (sa_cons (se_w 1) (sa_cons (se_w 2) sa_nil rfl) rfl) (by decide) rfl rfl rfl)))
      ss_nil))
theorem ok__law_box (F : Fun K "_law_box" "_law_box" s__law_box f fd) (hK : K = G.K) (hP : P = G.prog) (hW : w = G.wo) (hX : GX G NM TX) (D : Ds P w K mg base G cl T d) (m_abs : mg "abs" = none) (m_int : mg "int" = none) (m_len : mg "len" = none) : FnE P w K mg base (2 * d + 3 + 1) f fd ["script", "k"] G cl (runB 3 (F__law_box T)) :=
  ok_E F sc__law_box fun cdv A outer s H E hr => by
    have hu := hr.units
    exact (ss_cons (ss_set (i := 2) sc__law_box.nd rfl (by first | exact Or.inl rfl | exact Or.inr rfl) (se_if (st_lt (se_w 1) (se_len3 hK ⟨hP, hW⟩ m_len rfl (sa_cons (se_w 0) sa_nil rfl) rfl rfl)) (se_ix2 hK ⟨hP, hW⟩ (room65 hr) (se_w 0) (se_w 1) (by exact fun _ _ => rfl)) se_int) rfl (by first | exact Or.inl rfl | exact Or.inr rfl))
      (ss_cons (ss_ret (se_lst (sa_cons (se_mul hK (se_abs m_abs rfl (sa_cons (se_w 2) sa_nil rfl) rfl rfl) (se_intOf m_int rfl (sa_cons (se_ge (se_abs m_abs rfl (sa_cons (se_w 2) sa_nil rfl) rfl rfl) (se_pow se_int se_int)) sa_nil rfl) rfl rfl)) (sa_cons (se_add hK (se_add hK (se_mod (se_intOf m_int rfl (sa_cons (se_w 2) sa_nil rfl) rfl rfl) se_int) (se_mul hK se_int (se_w 1))) se_int) (sa_cons se_int sa_nil rfl) rfl) rfl)))
      ss_nil))
theorem ok__law_take (F : Fun K "_law_take" "_law_take" s__law_take f fd) (hK : K = G.K) (hP : P = G.prog) (hW : w = G.wo) (hX : GX G NM TX) (D : Ds P w K mg base G cl T d) (m_int : mg "int" = none) : FnE P w K mg base (2 * d + 3 + 1) f fd ["tin", "below"] G cl (runB 6 (F__law_take T)) :=
  ok_E F sc__law_take fun cdv A outer s H E hr => by
    have hu := hr.units
    exact (ss_cons (ss_if (st_gt (se_ix2 hK ⟨hP, hW⟩ (room65 hr) (se_w 0) se_int (by exact fun _ _ => rfl)) se_int) (ss_cons (ss_set (i := 2) sc__law_take.nd rfl (by first | exact Or.inl rfl | exact Or.inr rfl) (se_mod (se_intOf m_int rfl (sa_cons (se_ix2 hK ⟨hP, hW⟩ (room65 hr) (se_w 0) se_int (by exact fun _ _ => rfl)) sa_nil rfl) rfl rfl) (se_w 1)) rfl (by first | exact Or.inl rfl | exact Or.inr rfl))
      (ss_cons (ss_asg (se_div (se_ix2 hK ⟨hP, hW⟩ (room65 hr) (se_w 0) se_int (by exact fun _ _ => rfl)) (se_w 1)) (sg_sub2 hK ⟨hP, hW⟩ (room65 hr) (se_w 0) se_int (by intro _; rfl)) (by rfl) (by rfl) (by rfl))
      (ss_cons (ss_ret (se_w 2))
      ss_nil))) ss_nil)
      (ss_cons (ss_asg (se_add hK (se_ix2 hK ⟨hP, hW⟩ (room65 hr) (se_w 0) se_int (by exact fun _ _ => rfl)) se_int) (sg_sub2 hK ⟨hP, hW⟩ (room65 hr) (se_w 0) se_int (by intro _; rfl)) (by rfl) (by rfl) (by rfl))
      (ss_cons (ss_set (i := 3) sc__law_take.nd rfl (by first | exact Or.inl rfl | exact Or.inr rfl) (se_mod (se_intOf m_int rfl (sa_cons (se_mul hK (se_add hK (se_ix2 hK ⟨hP, hW⟩ (room65 hr) (se_w 0) se_int (by exact fun _ _ => rfl)) (se_mul hK se_int (se_ix2 hK ⟨hP, hW⟩ (room65 hr) (se_w 0) se_int (by exact fun _ _ => rfl)))) (se_add hK se_int (se_ix2 hK ⟨hP, hW⟩ (room65 hr) (se_w 0) se_int (by exact fun _ _ => rfl)))) sa_nil rfl) rfl rfl) se_int) rfl (by first | exact Or.inl rfl | exact Or.inr rfl))
      (ss_cons (ss_set (i := 4) sc__law_take.nd rfl (by first | exact Or.inl rfl | exact Or.inr rfl) (se_add hK (se_mod (se_intOf m_int rfl (sa_cons (se_w 3) sa_nil rfl) rfl rfl) se_int) se_int) rfl (by first | exact Or.inl rfl | exact Or.inr rfl))
      (ss_cons (ss_set (i := 5) sc__law_take.nd rfl (by first | exact Or.inl rfl | exact Or.inr rfl) (se_mod (se_intOf m_int rfl (sa_cons (se_mul hK (se_add hK (se_add hK (se_w 3) (se_ix2 hK ⟨hP, hW⟩ (room65 hr) (se_w 0) se_int (by exact fun _ _ => rfl))) (se_div (se_ix2 hK ⟨hP, hW⟩ (room65 hr) (se_w 0) se_int (by exact fun _ _ => rfl)) se_int)) (se_w 4)) sa_nil rfl) rfl rfl) se_int) rfl (by first | exact Or.inl rfl | exact Or.inr rfl))
      (ss_cons (ss_ret (se_mod (se_intOf m_int rfl (sa_cons (se_div (se_mod (se_intOf m_int rfl (sa_cons (se_add hK (se_mul hK (se_w 5) se_int) (se_w 3)) sa_nil rfl) rfl rfl) se_int) se_int) sa_nil rfl) rfl rfl) (se_w 1)))
      ss_nil))))))
theorem ok__law_cells (F : Fun K "_law_cells" "_law_cells" s__law_cells f fd) (hK : K = G.K) (hP : P = G.prog) (hW : w = G.wo) (hX : GX G NM TX) (D : Ds P w K mg base G cl T d) (m_enumerate : mg "enumerate" = none) (m_int : mg "int" = none) (m_list : mg "list" = none) : FnE P w K mg base (2 * d + 3 + 1) f fd ["script", "most"] G cl (runB 6 (F__law_cells T)) :=
  ok_E F sc__law_cells fun cdv A outer s H E hr => by
    have hu := hr.units
    exact (ss_cons (ss_set (i := 2) sc__law_cells.nd rfl (by first | exact Or.inl rfl | exact Or.inr rfl) (se_orT hK (se_lst3 hK rfl m_list rfl (sa_cons (se_sl hK (se_w 0) so_none (so_some (se_w 1))) sa_nil rfl) rfl rfl) (se_one (se_lst (sa_cons se_int sa_nil rfl)))) rfl (by first | exact Or.inl rfl | exact Or.inr rfl))
      (ss_cons (ss_for (passes_of rfl) rfl (si_or (tupR (aC (eSl (eV 0) (oS (eV 1)) (oS (eK (.int 63)))) aN)) (si_enT hK rfl m_enumerate (sa_cons (se_sl hK (se_w 0) (so_some (se_w 1)) (so_some se_int)) sa_nil rfl) rfl) (si_enL hK rfl m_enumerate (sa_cons (se_sl hK (se_w 0) (so_some (se_w 1)) (so_some se_int)) sa_nil rfl) rfl)) (sg_tl hK (n := 2) rfl (sgs_cons (sg_n (pg_name (i := 3) sc__law_cells.nd rfl (by first | exact Or.inl rfl | exact Or.inr rfl))) (sgs_cons (sg_n (pg_name (i := 4) sc__law_cells.nd rfl (by first | exact Or.inl rfl | exact Or.inr rfl))) sgs_nil rfl) rfl) rfl rfl) (ss_cons (ss_set (i := 5) sc__law_cells.nd rfl (by first | exact Or.inl rfl | exact Or.inr rfl) (se_mod (se_intOf m_int rfl (sa_cons (se_w 3) sa_nil rfl) rfl rfl) (se_w 1)) rfl (by first | exact Or.inl rfl | exact Or.inr rfl))
      (ss_cons (ss_asg (se_add hK (se_ix2 hK ⟨hP, hW⟩ (room65 hr) (se_w 2) (se_w 5) (by exact fun _ _ => rfl)) (se_mul hK (se_w 4) (se_add hK (se_w 3) se_int))) (sg_sub2 hK ⟨hP, hW⟩ (room65 hr) (se_w 2) (se_w 5) (by intro _; rfl)) (by rfl) (by rfl) (by rfl))
      ss_nil)) (by intro _; rfl))
      (ss_cons (ss_ret (se_w 2))
      ss_nil)))
theorem ok__law_same (F : Fun K "_law_same" "_law_same" s__law_same f fd) (hK : K = G.K) (hP : P = G.prog) (hW : w = G.wo) (hX : GX G NM TX) (D : Ds P w K mg base G cl T d) (m_all : mg "all" = none) (m_bool : mg "bool" = none) (m_int : mg "int" = none) (m_isinstance : mg "isinstance" = none) (m_len : mg "len" = none) (m_list : mg "list" = none) (m_str : mg "str" = none) (m_tuple : mg "tuple" = none) (m_zip : mg "zip" = none) : FnE P w K mg base (2 * d + 3 + 1) f fd ["got", "goal"] G cl (frm (runB 4 (F__law_same T))) :=
  FnE.frm (ok_E F sc__law_same fun cdv A outer s H E hr => by
    have hu := hr.units
    exact (ss_cons (ss_if (st_tru hK (se_isi2 (t := Kd.list) (t' := Kd.tuple) hK m_isinstance rfl (se_w 1) (pe_bltn rfl m_list (by decide +kernel) rfl) (pe_bltn rfl m_tuple (by decide +kernel) rfl) rfl rfl rfl rfl rfl) (by intro _; rfl)) (ss_cons (ss_if (SW.st (sw_or (st_ne hK hu (se_isi (t := Kd.list) hK m_isinstance rfl (se_w 0) (pe_bltn rfl m_list (by decide +kernel) rfl) rfl rfl rfl) (se_isi (t := Kd.list) hK m_isinstance rfl (se_w 1) (pe_bltn rfl m_list (by decide +kernel) rfl) rfl rfl rfl)) (sw_or1 (st_ne hK hu (se_isi (t := Kd.tuple) hK m_isinstance rfl (se_w 0) (pe_bltn rfl m_tuple (by decide +kernel) rfl) rfl rfl rfl) (se_isi (t := Kd.tuple) hK m_isinstance rfl (se_w 1) (pe_bltn rfl m_tuple (by decide +kernel) rfl) rfl rfl rfl))))) (ss_cons (ss_ret se_bl)
      ss_nil) ss_nil)
      (ss_cons (ss_ret (se_and (se_eq hK hu (se_len3 hK ⟨hP, hW⟩ m_len rfl (sa_cons (se_w 0) sa_nil rfl) rfl rfl) (se_len3 hK ⟨hP, hW⟩ m_len rfl (sa_cons (se_w 1) sa_nil rfl) rfl rfl)) (se_one (se_all hK rfl m_all rfl (sa_cons (se_compL (own := [("mine", 2), ("own", 3)]) hW rfl sc__law_same.nd ⟨_, _, rfl, rfl, rfl⟩ (takesH_of (takes_of rfl rfl rfl rfl) rfl) (si_or (ltR (aC (eV 0) (aC (eV 1) aN))) (si_zipM hK rfl m_zip (sa_cons (se_w 0) (sa_cons (se_w 1) sa_nil rfl) rfl) rfl rfl) (si_zip hK rfl m_zip (sa_cons (se_w 0) (sa_cons (se_w 1) sa_nil rfl) rfl) rfl rfl)) (blkOk_by (own := [("mine", 2), ("own", 3)]) (show blkC ["got", "goal", "mine", "own"] (defScope s__law_same) _ _ = true by decide +kernel)) (fun _ => trivial) (fun Wk1 _ _ _ _ _ tk1 th1 st1 lk1 => (sg_tl hK (n := 2) rfl (sgs_cons (sg_n (pg_name (i := 2) sc__law_same.nd rfl (by first | exact Or.inl rfl | exact Or.inr rfl))) (sgs_cons (sg_n (pg_name (i := 3) sc__law_same.nd rfl (by first | exact Or.inl rfl | exact Or.inr rfl))) sgs_nil rfl) rfl) rfl rfl)) (fun Wk1 _ _ _ _ _ tk1 th1 st1 lk1 => sts_nil) (fun Wk1 _ _ _ _ _ tk1 th1 st1 lk1 => (sb_l rfl (se_call D.d11 tk1 (hr.mono (Nat.le_succ _)) rfl (sa_cons (se_w 2) (sa_cons (se_w 3) sa_nil rfl) rfl) (by decide) rfl rfl rfl))) (by decide) (by decide) (by intro _; rfl)) sa_nil rfl) rfl rfl))))
      ss_nil)) ss_nil)
      (ss_cons (ss_if (SW.st (sw_or (st_isN (se_w 1) se_non) (sw_or1 (st_tru hK (se_isi2 (t := Kd.bool) (t' := Kd.str) hK m_isinstance rfl (se_w 1) (pe_bltn rfl m_bool (by decide +kernel) rfl) (pe_bltn rfl m_str (by decide +kernel) rfl) rfl rfl rfl rfl rfl) (by intro _; rfl))))) (ss_cons (ss_ret (se_and (se_eq hK hu (se_w 0) (se_w 1)) (se_and (se_eq hK hu (se_isi (t := Kd.bool) hK m_isinstance rfl (se_w 0) (pe_bltn rfl m_bool (by decide +kernel) rfl) rfl rfl rfl) (se_isi (t := Kd.bool) hK m_isinstance rfl (se_w 1) (pe_bltn rfl m_bool (by decide +kernel) rfl) rfl rfl rfl)) (se_one (se_eq hK hu (se_isN (se_w 0) se_non) (se_isN (se_w 1) se_non))))))
      ss_nil) ss_nil)
      (ss_cons (ss_ret (se_and (se_isi (t := Kd.int) hK m_isinstance rfl (se_w 0) (pe_bltn rfl m_int (by decide +kernel) rfl) rfl rfl rfl) (se_and (se_notT hK (se_isi (t := Kd.bool) hK m_isinstance rfl (se_w 0) (pe_bltn rfl m_bool (by decide +kernel) rfl) rfl rfl rfl)) (se_one (se_eq hK hu (se_w 0) (se_w 1))))))
      ss_nil))))
end
end L37
namespace L37
open PySem PySem.Spec PyProof.Rows L2 EV
section
variable {P : Program} {w : World} {K : PySem.W.Frag} {mg : Str → Option Value} {base : Heap} {G : GC} {cl : Cls} {T : Tab} {d : Nat} {f : Addr} {fd : FuncData}
theorem ok__law_lists (F : Fun K "_law_lists" "_law_lists" s__law_lists f fd) (hK : K = G.K) (hP : P = G.prog) (hW : w = G.wo) (hX : GX G NM TX) (D : Ds P w K mg base G cl T d) (m_isinstance : mg "isinstance" = none) (m_list : mg "list" = none) (m_tuple : mg "tuple" = none) : FnE P w K mg base (2 * d + 3 + 1) f fd ["matter"] G cl (runB 2 (F__law_lists T)) :=
  ok_E F sc__law_lists fun cdv A outer s H E hr => by
    have hu := hr.units
    exact (ss_cons (ss_un (ss_ret (se_if (st_tru hK (se_isi2 (t := Kd.list) (t' := Kd.tuple) hK m_isinstance rfl (se_w 0) (pe_bltn rfl m_list (by decide +kernel) rfl) (pe_bltn rfl m_tuple (by decide +kernel) rfl) rfl rfl rfl rfl rfl) (by intro _; rfl)) (se_compL (own := [("own", 1)]) hW rfl sc__law_lists.nd ⟨_, _, rfl, rfl, rfl⟩ (takesH_of (takes_of rfl rfl rfl rfl) rfl) (si_v3 hK (se_w 0)) (blkOk_by (own := [("own", 1)]) (show blkC ["matter", "own"] (defScope s__law_lists) _ _ = true by decide +kernel)) (fun _ => trivial) (fun Wk1 _ _ _ _ _ tk1 th1 st1 lk1 => (sg_n (pg_name (i := 1) sc__law_lists.nd rfl (by first | exact Or.inl rfl | exact Or.inr rfl)))) (fun Wk1 _ _ _ _ _ tk1 th1 st1 lk1 => sts_nil) (fun Wk1 _ _ _ _ _ tk1 th1 st1 lk1 => (sb_l rfl (se_call D.d12 tk1 (hr.mono (Nat.le_succ _)) rfl (sa_cons (se_w 1) sa_nil rfl) (by decide) rfl rfl rfl))) (by decide) (by decide) (by intro _; rfl)) (se_w 0))))
      ss_nil)
theorem ok__law_of (F : Fun K "_law_of" "_law_of" s__law_of f fd) (hK : K = G.K) (hP : P = G.prog) (hW : w = G.wo) (hX : GX G NM TX) (D : Ds P w K mg base G cl T d) (m_len : mg "len" = none) : FnE P w K mg base (2 * d + 3 + 1) f fd ["tin", "goods"] G cl (runB 2 (F__law_of T)) :=
  ok_E F sc__law_of fun cdv A outer s H E hr => by
    have hu := hr.units
    exact (ss_cons (ss_ret (se_ix2 hK ⟨hP, hW⟩ (room65 hr) (se_w 1) (se_call D.d9 (takes_of rfl rfl rfl rfl) (hr.mono (Nat.le_succ _)) rfl (sa_cons (se_w 0) (sa_cons (se_len3 hK ⟨hP, hW⟩ m_len rfl (sa_cons (se_w 1) sa_nil rfl) rfl rfl) sa_nil rfl) rfl) (by decide) rfl rfl rfl) (by exact fun _ _ => rfl)))
      ss_nil)
theorem ok__law_tree (F : Fun K "_law_tree" "_law_tree" s__law_tree f fd) (hK : K = G.K) (hP : P = G.prog) (hW : w = G.wo) (hX : GX G NM TX) (D : Ds P w K mg base G cl T d) (m_range : mg "range" = none) (m_tuple : mg "tuple" = none) : FnE P w K mg base (2 * d + 3 + 1) f fd ["tin", "deep", "kind"] G cl (runB 6 (F__law_tree T)) :=
  ok_E F sc__law_tree fun cdv A outer s H E hr => by
    have hu := hr.units
    exact (ss_cons (ss_if (SW.st (sw_or (st_eq hK hu (se_w 1) se_int) (sw_or1 (st_eq hK hu (se_call D.d9 (takes_of rfl rfl rfl rfl) (hr.mono (Nat.le_succ _)) rfl (sa_cons (se_w 0) (sa_cons se_int sa_nil rfl) rfl) (by decide) rfl rfl rfl) se_int)))) (ss_cons (ss_ret (se_if (st_eq hK hu (se_w 2) se_int) (se_tup (sa_cons se_str (sa_cons (se_call D.d9 (takes_of rfl rfl rfl rfl) (hr.mono (Nat.le_succ _)) rfl (sa_cons (se_w 0) (sa_cons se_int sa_nil rfl) rfl) (by decide) rfl rfl rfl) sa_nil rfl) rfl)) (se_call D.d13 (takes_of rfl rfl rfl rfl) (hr.mono (Nat.le_succ _)) rfl (sa_cons (se_w 0) (sa_cons (se_lst (sa_cons (se_tup (sa_cons se_str (sa_cons (se_tup sa_nil) sa_nil rfl) rfl)) (sa_cons (se_tup (sa_cons se_str (sa_cons (se_tup (sa_cons se_int sa_nil rfl)) sa_nil rfl) rfl)) (sa_cons (se_tup (sa_cons se_str (sa_cons se_int (sa_cons (se_tup (sa_cons se_int sa_nil rfl)) sa_nil rfl) rfl) rfl)) sa_nil rfl) rfl) rfl)) sa_nil rfl) rfl) (by decide) rfl rfl rfl)))
      ss_nil) ss_nil)
      (ss_cons (ss_set (i := 3) sc__law_tree.nd rfl (by first | exact Or.inl rfl | exact Or.inr rfl) (se_call D.d13 (takes_of rfl rfl rfl rfl) (hr.mono (Nat.le_succ _)) rfl (sa_cons (se_w 0) (sa_cons (se_lst (sa_cons se_int (sa_cons se_int (sa_cons se_int (sa_cons se_int sa_nil rfl) rfl) rfl) rfl)) sa_nil rfl) rfl) (by decide) rfl rfl rfl) rfl (by first | exact Or.inl rfl | exact Or.inr rfl))
      (ss_cons (ss_set (i := 4) sc__law_tree.nd rfl (by first | exact Or.inl rfl | exact Or.inr rfl) (se_call D.d13 (takes_of rfl rfl rfl rfl) (hr.mono (Nat.le_succ _)) rfl (sa_cons (se_w 0) (sa_cons (se_lst (sa_cons se_int (sa_cons se_int (sa_cons se_int (sa_cons se_int (sa_cons se_int (sa_cons (se_if (st_eq hK hu (se_w 1) se_int) se_int se_int) sa_nil rfl) rfl) rfl) rfl) rfl) rfl)) sa_nil rfl) rfl) (by decide) rfl rfl rfl) rfl (by first | exact Or.inl rfl | exact Or.inr rfl))
      (ss_cons (ss_ret (se_tup (sa_cons se_str (sa_cons (se_w 3) (sa_cons (se_tupOf hK m_tuple rfl (sa_cons (se_compL (own := [("lap", 5)]) hW rfl sc__law_tree.nd ⟨_, _, rfl, rfl, rfl⟩ (takesH_of (takes_of rfl rfl rfl rfl) rfl) (si_r1 rfl m_range (sa_cons (se_w 4) sa_nil rfl) rfl) (blkOk_by (own := [("lap", 5)]) (show blkC ["tin", "deep", "kind", "maker", "many", "lap"] (defScope s__law_tree) _ _ = true by decide +kernel)) (fun _ => trivial) (fun Wk1 _ _ _ _ _ tk1 th1 st1 lk1 => (sg_n (pg_name (i := 5) sc__law_tree.nd rfl (by first | exact Or.inl rfl | exact Or.inr rfl)))) (fun Wk1 _ _ _ _ _ tk1 th1 st1 lk1 => sts_nil) (fun Wk1 _ _ _ _ _ tk1 th1 st1 lk1 => (sb_l rfl (se_call D.d14 tk1 (hr.mono (Nat.le_succ _)) rfl (sa_cons (se_w 0) (sa_cons (se_sub (se_w 1) se_int) (sa_cons (se_w 2) sa_nil rfl) rfl) rfl) (by decide) rfl rfl rfl))) (by decide) (by decide) (by intro _; rfl)) sa_nil rfl) rfl rfl) sa_nil rfl) rfl) rfl)))
      ss_nil))))
theorem ok__law_spots (F : Fun K "_law_spots" "_law_spots" s__law_spots f fd) (hK : K = G.K) (hP : P = G.prog) (hW : w = G.wo) (hX : GX G NM TX) (D : Ds P w K mg base G cl T d) (m_enumerate : mg "enumerate" = none) (m_len : mg "len" = none) : FnE P w K mg base (2 * d + 3 + 1) f fd ["tree", "maker"] G cl (runB 6 (F__law_spots T)) :=
  ok_E F sc__law_spots fun cdv A outer s H E hr => by
    have hu := hr.units
    exact (ss_cons (ss_if (st_ne hK hu (se_ix2 hK ⟨hP, hW⟩ (room65 hr) (se_w 0) se_int (by exact fun _ _ => rfl)) se_str) (ss_cons (ss_ret (se_lst sa_nil))
      ss_nil) ss_nil)
      (ss_cons (ss_set (i := 2) sc__law_spots.nd rfl (by first | exact Or.inl rfl | exact Or.inr rfl) (se_lst sa_nil) rfl (by first | exact Or.inl rfl | exact Or.inr rfl))
      (ss_cons (ss_if (SW.st (sw_and (st_eq hK hu (se_ix2 hK ⟨hP, hW⟩ (room65 hr) (se_w 0) se_int (by exact fun _ _ => rfl)) (se_w 1)) (sw_and (st_eq hK hu (se_len3 hK ⟨hP, hW⟩ m_len rfl (sa_cons (se_ix2 hK ⟨hP, hW⟩ (room65 hr) (se_w 0) se_int (by exact fun _ _ => rfl)) sa_nil rfl) rfl rfl) se_int) (sw_and1 (st_tru hK (se_call D.d16 (takes_of rfl rfl rfl rfl) (hr.mono (Nat.le_succ _)) rfl (sa_cons (se_ix2 hK ⟨hP, hW⟩ (room65 hr) (se_ix2 hK ⟨hP, hW⟩ (room65 hr) (se_w 0) se_int (by exact fun _ _ => rfl)) se_int (by exact fun _ _ => rfl)) (sa_cons (se_w 1) sa_nil rfl) rfl) (by decide) rfl rfl rfl) (by intro _; rfl)))))) (ss_cons (ss_set (i := 2) sc__law_spots.nd rfl (by first | exact Or.inl rfl | exact Or.inr rfl) (se_lst (sa_cons (se_tup sa_nil) sa_nil rfl)) rfl (by first | exact Or.inl rfl | exact Or.inr rfl))
      ss_nil) ss_nil)
      (ss_cons (ss_for (passes_of rfl) rfl (si_or (tupR (aC (e2 gIx2 (eV 0) (eK (.int 2))) aN)) (si_enT hK rfl m_enumerate (sa_cons (se_ix2 hK ⟨hP, hW⟩ (room65 hr) (se_w 0) se_int (by exact fun _ _ => rfl)) sa_nil rfl) rfl) (si_enL hK rfl m_enumerate (sa_cons (se_ix2 hK ⟨hP, hW⟩ (room65 hr) (se_w 0) se_int (by exact fun _ _ => rfl)) sa_nil rfl) rfl)) (sg_tl hK (n := 2) rfl (sgs_cons (sg_n (pg_name (i := 3) sc__law_spots.nd rfl (by first | exact Or.inl rfl | exact Or.inr rfl))) (sgs_cons (sg_n (pg_name (i := 4) sc__law_spots.nd rfl (by first | exact Or.inl rfl | exact Or.inr rfl))) sgs_nil rfl) rfl) rfl rfl) (ss_cons (ss_un (ss_set (i := 2) sc__law_spots.nd rfl (by first | exact Or.inl rfl | exact Or.inr rfl) (se_add hK (se_w 2) (se_lc (own := [("way", 5)]) rfl sc__law_spots.nd (si_v3 hK (se_call D.d15 (takes_of rfl rfl rfl rfl) (hr.mono (Nat.le_succ _)) rfl (sa_cons (se_w 4) (sa_cons (se_w 1) sa_nil rfl) rfl) (by decide) rfl rfl rfl)) (blkOk_by (own := [("way", 5)]) (show blkC ["tree", "maker", "found", "k", "own", "way"] (defScope s__law_spots) _ _ = true by decide +kernel)) (fun _ _ _ _ _ => (sg_n (pg_name (i := 5) sc__law_spots.nd rfl (by first | exact Or.inl rfl | exact Or.inr rfl)))) (fun _ _ _ _ _ => sts_nil) (fun _ _ _ _ _ => (se_add hK (se_tup (sa_cons (se_w 3) sa_nil rfl)) (se_w 5))) (by decide) (by intro _; rfl))) rfl (by first | exact Or.inl rfl | exact Or.inr rfl)))
      ss_nil) (by intro _; rfl))
      (ss_cons (ss_ret (se_w 2))
      ss_nil)))))
theorem ok__law_is_two (F : Fun K "_law_is_two" "_law_is_two" s__law_is_two f fd) (hK : K = G.K) (hP : P = G.prog) (hW : w = G.wo) (hX : GX G NM TX) (D : Ds P w K mg base G cl T d) (m_len : mg "len" = none) : FnE P w K mg base (2 * d + 3 + 1) f fd ["tree", "maker"] G cl (frm (runB 2 (F__law_is_two T))) :=
  FnE.frm (ok_E F sc__law_is_two fun cdv A outer s H E hr => by
    have hu := hr.units
    exact (ss_cons (ss_ret (se_and (se_eq hK hu (se_ix2 hK ⟨hP, hW⟩ (room65 hr) (se_w 0) se_int (by exact fun _ _ => rfl)) se_str) (se_and (se_eq hK hu (se_ix2 hK ⟨hP, hW⟩ (room65 hr) (se_w 0) se_int (by exact fun _ _ => rfl)) (se_w 1)) (se_one (se_eq hK hu (se_len3 hK ⟨hP, hW⟩ m_len rfl (sa_cons (se_ix2 hK ⟨hP, hW⟩ (room65 hr) (se_w 0) se_int (by exact fun _ _ => rfl)) sa_nil rfl) rfl rfl) se_int)))))
      ss_nil))
theorem ok__law_moved (F : Fun K "_law_moved" "_law_moved" s__law_moved f fd) (hK : K = G.K) (hP : P = G.prog) (hW : w = G.wo) (hX : GX G NM TX) (D : Ds P w K mg base G cl T d) : FnE P w K mg base (2 * d + 3 + 1) f fd ["tree", "way"] G cl (frm (runB 4 (F__law_moved T))) :=
  FnE.frm (ok_E F sc__law_moved fun cdv A outer s H E hr => by
    have hu := hr.units
    exact (ss_cons (ss_if (st_ne hK hu (se_w 1) (se_tup sa_nil)) (ss_cons (ss_ret (se_add hK (se_sl hK (se_w 0) so_none (so_some se_int)) (se_tup (sa_cons (se_add hK (se_add hK (se_sl hK (se_ix2 hK ⟨hP, hW⟩ (room65 hr) (se_w 0) se_int (by exact fun _ _ => rfl)) so_none (so_some (se_ix2 hK ⟨hP, hW⟩ (room65 hr) (se_w 1) se_int (by exact fun _ _ => rfl)))) (se_tup (sa_cons (se_call D.d17 (takes_of rfl rfl rfl rfl) (hr.mono (Nat.le_succ _)) rfl (sa_cons (se_ix2 hK ⟨hP, hW⟩ (room65 hr) (se_ix2 hK ⟨hP, hW⟩ (room65 hr) (se_w 0) se_int (by exact fun _ _ => rfl)) (se_ix2 hK ⟨hP, hW⟩ (room65 hr) (se_w 1) se_int (by exact fun _ _ => rfl)) (by exact fun _ _ => rfl)) (sa_cons (se_sl hK (se_w 1) (so_some se_int) so_none) sa_nil rfl) rfl) (by decide) rfl rfl rfl) sa_nil rfl))) (se_sl hK (se_ix2 hK ⟨hP, hW⟩ (room65 hr) (se_w 0) se_int (by exact fun _ _ => rfl)) (so_some (se_add hK (se_ix2 hK ⟨hP, hW⟩ (room65 hr) (se_w 1) se_int (by exact fun _ _ => rfl)) se_int)) so_none)) sa_nil rfl))))
      ss_nil) ss_nil)
      (ss_cons (ss_asg (se_ix2 hK ⟨hP, hW⟩ (room65 hr) (se_w 0) se_int (by exact fun _ _ => rfl)) (sg_tl hK (n := 2) rfl (sgs_cons (sg_n (pg_name (i := 2) sc__law_moved.nd rfl (by first | exact Or.inl rfl | exact Or.inr rfl))) (sgs_cons (sg_n (pg_name (i := 3) sc__law_moved.nd rfl (by first | exact Or.inl rfl | exact Or.inr rfl))) sgs_nil rfl) rfl) rfl rfl) (by rfl) (by rfl) (by rfl))
      (ss_cons (ss_ret (se_tup (sa_cons se_str (sa_cons (se_ix2 hK ⟨hP, hW⟩ (room65 hr) (se_w 0) se_int (by exact fun _ _ => rfl)) (sa_cons (se_tup (sa_cons (se_ix2 hK ⟨hP, hW⟩ (room65 hr) (se_ix2 hK ⟨hP, hW⟩ (room65 hr) (se_w 2) se_int (by exact fun _ _ => rfl)) se_int (by exact fun _ _ => rfl)) (sa_cons (se_tup (sa_cons se_str (sa_cons (se_ix2 hK ⟨hP, hW⟩ (room65 hr) (se_w 0) se_int (by exact fun _ _ => rfl)) (sa_cons (se_tup (sa_cons (se_ix2 hK ⟨hP, hW⟩ (room65 hr) (se_ix2 hK ⟨hP, hW⟩ (room65 hr) (se_w 2) se_int (by exact fun _ _ => rfl)) se_int (by exact fun _ _ => rfl)) (sa_cons (se_w 3) sa_nil rfl) rfl)) sa_nil rfl) rfl) rfl)) sa_nil rfl) rfl)) sa_nil rfl) rfl) rfl)))
      ss_nil))))
theorem ok__law_all_moved (F : Fun K "_law_all_moved" "_law_all_moved" s__law_all_moved f fd) (hK : K = G.K) (hP : P = G.prog) (hW : w = G.wo) (hX : GX G NM TX) (D : Ds P w K mg base G cl T d) (m_range : mg "range" = none) : FnE P w K mg base (2 * d + 3 + 1) f fd ["tin", "tree", "maker"] G cl (runB 6 (F__law_all_moved T)) :=
  ok_E F sc__law_all_moved fun cdv A outer s H E hr => by
    have hu := hr.units
    exact (ss_cons (ss_set (i := 3) sc__law_all_moved.nd rfl (by first | exact Or.inl rfl | exact Or.inr rfl) (se_w 1) rfl (by first | exact Or.inl rfl | exact Or.inr rfl))
      (ss_cons (ss_for (passes_of rfl) rfl (si_r1 rfl m_range (sa_cons se_int sa_nil rfl) rfl) (sg_n (pg_name (i := 4) sc__law_all_moved.nd rfl (by first | exact Or.inl rfl | exact Or.inr rfl))) (ss_cons (ss_set (i := 5) sc__law_all_moved.nd rfl (by first | exact Or.inl rfl | exact Or.inr rfl) (se_call D.d15 (takes_of rfl rfl rfl rfl) (hr.mono (Nat.le_succ _)) rfl (sa_cons (se_w 3) (sa_cons (se_w 2) sa_nil rfl) rfl) (by decide) rfl rfl rfl) rfl (by first | exact Or.inl rfl | exact Or.inr rfl))
      (ss_cons (ss_if (st_eq hK hu (se_w 5) (se_lst sa_nil)) (ss_cons (ss_ret (se_w 3))
      ss_nil) ss_nil)
      (ss_cons (ss_set (i := 3) sc__law_all_moved.nd rfl (by first | exact Or.inl rfl | exact Or.inr rfl) (se_call D.d17 (takes_of rfl rfl rfl rfl) (hr.mono (Nat.le_succ _)) rfl (sa_cons (se_w 3) (sa_cons (se_call D.d13 (takes_of rfl rfl rfl rfl) (hr.mono (Nat.le_succ _)) rfl (sa_cons (se_w 0) (sa_cons (se_w 5) sa_nil rfl) rfl) (by decide) rfl rfl rfl) sa_nil rfl) rfl) (by decide) rfl rfl rfl) rfl (by first | exact Or.inl rfl | exact Or.inr rfl))
      ss_nil))) (by intro _; rfl))
      (ss_cons (ss_ret (se_w 3))
      ss_nil)))
theorem ok__law_turned (F : Fun K "_law_turned" "_law_turned" s__law_turned f fd) (hK : K = G.K) (hP : P = G.prog) (hW : w = G.wo) (hX : GX G NM TX) (D : Ds P w K mg base G cl T d) (m_len : mg "len" = none) (m_tuple : mg "tuple" = none) : FnE P w K mg base (2 * d + 3 + 1) f fd ["tin", "tree", "maker"] G cl (runB 5 (F__law_turned T)) :=
  ok_E F sc__law_turned fun cdv A outer s H E hr => by
    have hu := hr.units
    exact (ss_cons (ss_if (st_ne hK hu (se_ix2 hK ⟨hP, hW⟩ (room65 hr) (se_w 1) se_int (by exact fun _ _ => rfl)) se_str) (ss_cons (ss_ret (se_w 1))
      ss_nil) ss_nil)
      (ss_cons (ss_un (ss_set (i := 3) sc__law_turned.nd rfl (by first | exact Or.inl rfl | exact Or.inr rfl) (se_tupOf hK m_tuple rfl (sa_cons (se_compL (own := [("own", 4)]) hW rfl sc__law_turned.nd ⟨_, _, rfl, rfl, rfl⟩ (takesH_of (takes_of rfl rfl rfl rfl) rfl) (si_v3 hK (se_ix2 hK ⟨hP, hW⟩ (room65 hr) (se_w 1) se_int (by exact fun _ _ => rfl))) (blkOk_by (own := [("own", 4)]) (show blkC ["tin", "tree", "maker", "parts", "own"] (defScope s__law_turned) _ _ = true by decide +kernel)) (fun _ => trivial) (fun Wk1 _ _ _ _ _ tk1 th1 st1 lk1 => (sg_n (pg_name (i := 4) sc__law_turned.nd rfl (by first | exact Or.inl rfl | exact Or.inr rfl)))) (fun Wk1 _ _ _ _ _ tk1 th1 st1 lk1 => sts_nil) (fun Wk1 _ _ _ _ _ tk1 th1 st1 lk1 => (sb_l rfl (se_call D.d19 tk1 (hr.mono (Nat.le_succ _)) rfl (sa_cons (se_w 0) (sa_cons (se_w 4) (sa_cons (se_w 2) sa_nil rfl) rfl) rfl) (by decide) rfl rfl rfl))) (by decide) (by decide) (by intro _; rfl)) sa_nil rfl) rfl rfl) rfl (by first | exact Or.inl rfl | exact Or.inr rfl)))
      (ss_cons (ss_if (SW.st (sw_and (st_eq hK hu (se_ix2 hK ⟨hP, hW⟩ (room65 hr) (se_w 1) se_int (by exact fun _ _ => rfl)) (se_w 2)) (sw_and (st_eq hK hu (se_len3 hK ⟨hP, hW⟩ m_len rfl (sa_cons (se_w 3) sa_nil rfl) rfl rfl) se_int) (sw_and (st_tru hK (se_call D.d16 (takes_of rfl rfl rfl rfl) (hr.mono (Nat.le_succ _)) rfl (sa_cons (se_ix2 hK ⟨hP, hW⟩ (room65 hr) (se_w 3) se_int (by exact fun _ _ => rfl)) (sa_cons (se_w 2) sa_nil rfl) rfl) (by decide) rfl rfl rfl) (by intro _; rfl)) (sw_and1 (st_eq hK hu (se_call D.d9 (takes_of rfl rfl rfl rfl) (hr.mono (Nat.le_succ _)) rfl (sa_cons (se_w 0) (sa_cons se_int sa_nil rfl) rfl) (by decide) rfl rfl rfl) se_int)))))) (ss_cons (ss_ret (se_tup (sa_cons se_str (sa_cons (se_w 2) (sa_cons (se_tup (sa_cons (se_tup (sa_cons se_str (sa_cons (se_w 2) (sa_cons (se_tup (sa_cons (se_ix2 hK ⟨hP, hW⟩ (room65 hr) (se_w 3) se_int (by exact fun _ _ => rfl)) (sa_cons (se_ix2 hK ⟨hP, hW⟩ (room65 hr) (se_ix2 hK ⟨hP, hW⟩ (room65 hr) (se_ix2 hK ⟨hP, hW⟩ (room65 hr) (se_w 3) se_int (by exact fun _ _ => rfl)) se_int (by exact fun _ _ => rfl)) se_int (by exact fun _ _ => rfl)) sa_nil rfl) rfl)) sa_nil rfl) rfl) rfl)) (sa_cons (se_ix2 hK ⟨hP, hW⟩ (room65 hr) (se_ix2 hK ⟨hP, hW⟩ (room65 hr) (se_ix2 hK ⟨hP, hW⟩ (room65 hr) (se_w 3) se_int (by exact fun _ _ => rfl)) se_int (by exact fun _ _ => rfl)) se_int (by exact fun _ _ => rfl)) sa_nil rfl) rfl)) sa_nil rfl) rfl) rfl)))
      ss_nil) ss_nil)
      (ss_cons (ss_ret (se_tup (sa_cons se_str (sa_cons (se_ix2 hK ⟨hP, hW⟩ (room65 hr) (se_w 1) se_int (by exact fun _ _ => rfl)) (sa_cons (se_w 3) sa_nil rfl) rfl) rfl)))
      ss_nil))))
theorem ok__law_bent (F : Fun K "_law_bent" "_law_bent" s__law_bent f fd) (hK : K = G.K) (hP : P = G.prog) (hW : w = G.wo) (hX : GX G NM TX) (D : Ds P w K mg base G cl T d) (m_len : mg "len" = none) : FnE P w K mg base (2 * d + 3 + 1) f fd ["tin", "tree"] G cl (runB 3 (F__law_bent T)) :=
  ok_E F sc__law_bent fun cdv A outer s H E hr => by
    have hu := hr.units
    exact (ss_cons (ss_if (st_ne hK hu (se_ix2 hK ⟨hP, hW⟩ (room65 hr) (se_w 1) se_int (by exact fun _ _ => rfl)) se_str) (ss_cons (ss_ret (se_if (st_ne hK hu (se_ix2 hK ⟨hP, hW⟩ (room65 hr) (se_w 1) se_int (by exact fun _ _ => rfl)) se_str) (se_tup (sa_cons se_str (sa_cons (se_tup (sa_cons se_int (sa_cons se_int sa_nil rfl) rfl)) sa_nil rfl) rfl)) (se_tup (sa_cons se_str (sa_cons se_int sa_nil rfl) rfl))))
      ss_nil) ss_nil)
      (ss_cons (ss_set (i := 2) sc__law_bent.nd rfl (by first | exact Or.inl rfl | exact Or.inr rfl) (se_call D.d9 (takes_of rfl rfl rfl rfl) (hr.mono (Nat.le_succ _)) rfl (sa_cons (se_w 0) (sa_cons (se_len3 hK ⟨hP, hW⟩ m_len rfl (sa_cons (se_ix2 hK ⟨hP, hW⟩ (room65 hr) (se_w 1) se_int (by exact fun _ _ => rfl)) sa_nil rfl) rfl rfl) sa_nil rfl) rfl) (by decide) rfl rfl rfl) rfl (by first | exact Or.inl rfl | exact Or.inr rfl))
      (ss_cons (ss_ret (se_add hK (se_sl hK (se_w 1) so_none (so_some se_int)) (se_tup (sa_cons (se_add hK (se_add hK (se_sl hK (se_ix2 hK ⟨hP, hW⟩ (room65 hr) (se_w 1) se_int (by exact fun _ _ => rfl)) so_none (so_some (se_w 2))) (se_tup (sa_cons (se_call D.d20 (takes_of rfl rfl rfl rfl) (hr.mono (Nat.le_succ _)) rfl (sa_cons (se_w 0) (sa_cons (se_ix2 hK ⟨hP, hW⟩ (room65 hr) (se_ix2 hK ⟨hP, hW⟩ (room65 hr) (se_w 1) se_int (by exact fun _ _ => rfl)) (se_w 2) (by exact fun _ _ => rfl)) sa_nil rfl) rfl) (by decide) rfl rfl rfl) sa_nil rfl))) (se_sl hK (se_ix2 hK ⟨hP, hW⟩ (room65 hr) (se_w 1) se_int (by exact fun _ _ => rfl)) (so_some (se_add hK (se_w 2) se_int)) so_none)) sa_nil rfl))))
      ss_nil)))
theorem ok__law_right (F : Fun K "_law_right" "_law_right" s__law_right f fd) (hK : K = G.K) (hP : P = G.prog) (hW : w = G.wo) (hX : GX G NM TX) (D : Ds P w K mg base G cl T d) (m_int : mg "int" = none) : FnE P w K mg base (2 * d + 3 + 1) f fd ["tin"] G cl (runB 9 (F__law_right T)) :=
  ok_E F sc__law_right fun cdv A outer s H E hr => by
    have hu := hr.units
    exact (ss_cons (ss_par (i := 1) (j := 2) rfl sc__law_right.nd rfl rfl (by decide) rfl rfl (sa_cons (se_intOf m_int rfl (sa_cons (se_gt (se_call D.d9 (takes_of rfl rfl rfl rfl) (hr.mono (Nat.le_succ _)) rfl (sa_cons (se_w 0) (sa_cons se_int sa_nil rfl) rfl) (by decide) rfl rfl rfl) se_int) sa_nil rfl) rfl rfl) (sa_cons (se_add hK se_int (se_call D.d9 (takes_of rfl rfl rfl rfl) (hr.mono (Nat.le_succ _)) rfl (sa_cons (se_w 0) (sa_cons se_int sa_nil rfl) rfl) (by decide) rfl rfl rfl)) sa_nil rfl) rfl) (by rfl) (by rfl))
      (ss_cons (ss_set (i := 3) sc__law_right.nd rfl (by first | exact Or.inl rfl | exact Or.inr rfl) (se_call D.d14 (takes_of rfl rfl rfl rfl) (hr.mono (Nat.le_succ _)) rfl (sa_cons (se_w 0) (sa_cons (se_add hK se_int (se_mul hK se_int (se_w 1))) (sa_cons (se_w 1) sa_nil rfl) rfl) rfl) (by decide) rfl rfl rfl) rfl (by first | exact Or.inl rfl | exact Or.inr rfl))
      (ss_cons (ss_set (i := 4) sc__law_right.nd rfl (by first | exact Or.inl rfl | exact Or.inr rfl) (se_call D.d18 (takes_of rfl rfl rfl rfl) (hr.mono (Nat.le_succ _)) rfl (sa_cons (se_w 0) (sa_cons (se_w 3) (sa_cons (se_w 2) sa_nil rfl) rfl) rfl) (by decide) rfl rfl rfl) rfl (by first | exact Or.inl rfl | exact Or.inr rfl))
      (ss_cons (ss_set (i := 5) sc__law_right.nd rfl (by first | exact Or.inl rfl | exact Or.inr rfl) (se_call D.d5 (takes_of rfl rfl rfl rfl) (hr.mono (Nat.le_succ _)) rfl (sa_cons (se_w 3) (sa_cons (se_w 2) sa_nil rfl) rfl) (by decide) rfl rfl rfl) rfl (by first | exact Or.inl rfl | exact Or.inr rfl))
      (ss_cons (ss_if (SW.st (sw_or (st_ne hK hu (se_call D.d15 (takes_of rfl rfl rfl rfl) (hr.mono (Nat.le_succ _)) rfl (sa_cons (se_w 4) (sa_cons (se_w 2) sa_nil rfl) rfl) (by decide) rfl rfl rfl) (se_lst sa_nil)) (sw_or1 (st_not (st_tru hK (se_call D.d11 (takes_of rfl rfl rfl rfl) (hr.mono (Nat.le_succ _)) rfl (sa_cons (se_lst (sa_cons (se_w 5) (sa_cons (se_call D.d5 (takes_of rfl rfl rfl rfl) (hr.mono (Nat.le_succ _)) rfl (sa_cons (se_call D.d12 (takes_of rfl rfl rfl rfl) (hr.mono (Nat.le_succ _)) rfl (sa_cons (se_w 3) sa_nil rfl) (by decide) rfl rfl rfl) (sa_cons (se_w 2) sa_nil rfl) rfl) (by decide) rfl rfl rfl) (sa_cons (se_call D.d5 (takes_of rfl rfl rfl rfl) (hr.mono (Nat.le_succ _)) rfl (sa_cons (se_w 4) (sa_cons (se_w 2) sa_nil rfl) rfl) (by decide) rfl rfl rfl) sa_nil rfl) rfl) rfl)) (sa_cons (se_lst (sa_cons (se_w 4) (sa_cons (se_w 4) (sa_cons (se_w 4) sa_nil rfl) rfl) rfl)) sa_nil rfl) rfl) (by decide) rfl rfl rfl) (by intro _; rfl)))))) (ss_cons (ss_ret se_bl)
      ss_nil) ss_nil)
      (ss_cons (ss_par (i := 6) (j := 7) rfl sc__law_right.nd rfl rfl (by decide) rfl rfl (sa_cons (se_call D.d19 (takes_of rfl rfl rfl rfl) (hr.mono (Nat.le_succ _)) rfl (sa_cons (se_w 0) (sa_cons (se_w 3) (sa_cons (se_w 2) sa_nil rfl) rfl) rfl) (by decide) rfl rfl rfl) (sa_cons (se_call D.d20 (takes_of rfl rfl rfl rfl) (hr.mono (Nat.le_succ _)) rfl (sa_cons (se_w 0) (sa_cons (se_w 3) sa_nil rfl) rfl) (by decide) rfl rfl rfl) sa_nil rfl) rfl) (by rfl) (by rfl))
      (ss_cons (ss_set (i := 8) sc__law_right.nd rfl (by first | exact Or.inl rfl | exact Or.inr rfl) (se_lst (sa_cons (se_call D.d7 (takes_of rfl rfl rfl rfl) (hr.mono (Nat.le_succ _)) rfl (sa_cons (se_w 3) (sa_cons (se_w 6) (sa_cons (se_w 2) sa_nil rfl) rfl) rfl) (by decide) rfl rfl rfl) (sa_cons (se_call D.d7 (takes_of rfl rfl rfl rfl) (hr.mono (Nat.le_succ _)) rfl (sa_cons (se_call D.d12 (takes_of rfl rfl rfl rfl) (hr.mono (Nat.le_succ _)) rfl (sa_cons (se_w 6) sa_nil rfl) (by decide) rfl rfl rfl) (sa_cons (se_w 3) (sa_cons (se_w 2) sa_nil rfl) rfl) rfl) (by decide) rfl rfl rfl) (sa_cons (se_call D.d7 (takes_of rfl rfl rfl rfl) (hr.mono (Nat.le_succ _)) rfl (sa_cons (se_w 3) (sa_cons (se_w 7) (sa_cons (se_w 2) sa_nil rfl) rfl) rfl) (by decide) rfl rfl rfl) (sa_cons (se_call D.d7 (takes_of rfl rfl rfl rfl) (hr.mono (Nat.le_succ _)) rfl (sa_cons (se_w 3) (sa_cons (se_w 6) (sa_cons se_int sa_nil rfl) rfl) rfl) (by decide) rfl rfl rfl) sa_nil rfl) rfl) rfl) rfl)) rfl (by first | exact Or.inl rfl | exact Or.inr rfl))
      (ss_cons (ss_if (st_not (st_tru hK (se_call D.d11 (takes_of rfl rfl rfl rfl) (hr.mono (Nat.le_succ _)) rfl (sa_cons (se_w 8) (sa_cons (se_lst (sa_cons se_bl (sa_cons se_bl (sa_cons se_bl (sa_cons (se_eq hK hu (se_w 3) (se_w 6)) sa_nil rfl) rfl) rfl) rfl)) sa_nil rfl) rfl) (by decide) rfl rfl rfl) (by intro _; rfl))) (ss_cons (ss_ret se_bl)
      ss_nil) ss_nil)
      (ss_cons (ss_ret (se_orT hK (se_eq hK hu (se_w 1) se_int) (se_one (se_isB (se_call D.d7 (takes_of rfl rfl rfl rfl) (hr.mono (Nat.le_succ _)) rfl (sa_cons (se_tup (sa_cons se_str (sa_cons (se_w 2) (sa_cons (se_tup (sa_cons (se_w 3) (sa_cons (se_w 7) sa_nil rfl) rfl)) sa_nil rfl) rfl) rfl)) (sa_cons (se_tup (sa_cons se_str (sa_cons (se_w 2) (sa_cons (se_tup (sa_cons (se_w 7) (sa_cons (se_w 3) sa_nil rfl) rfl)) sa_nil rfl) rfl) rfl)) (sa_cons (se_w 2) sa_nil rfl) rfl) rfl) (by decide) rfl rfl rfl) se_bl))))
      ss_nil)))))))))
theorem ok__law_by_hand_right (F : Fun K "_law_by_hand_right" "_law_by_hand_right" s__law_by_hand_right f fd) (hK : K = G.K) (hP : P = G.prog) (hW : w = G.wo) (hX : GX G NM TX) (D : Ds P w K mg base G cl T d) (m_range : mg "range" = none) : FnE P w K mg base (2 * d + 3 + 1) f fd [] G cl (frm (runB 10 (F__law_by_hand_right T))) :=
  FnE.frm (ok_E F sc__law_by_hand_right fun cdv A outer s H E hr => by
    have hu := hr.units
    exact (ss_cons (ss_asg (se_lc (own := [("k", 4)]) rfl sc__law_by_hand_right.nd (si_r1 rfl m_range (sa_cons se_int sa_nil rfl) rfl) (blkOk_by (own := [("k", 4)]) (show blkC ["a", "b", "c", "d", "k", "left", "right", "within", "got", "due"] (defScope s__law_by_hand_right) _ _ = true by decide +kernel)) (fun _ _ _ _ _ => (sg_n (pg_name (i := 4) sc__law_by_hand_right.nd rfl (by first | exact Or.inl rfl | exact Or.inr rfl)))) (fun _ _ _ _ _ => sts_nil) (fun _ _ _ _ _ => (se_tup (sa_cons se_str (sa_cons (se_w 4) sa_nil rfl) rfl))) (by decide) (by intro _; rfl)) (sg_tl hK (n := 4) rfl (sgs_cons (sg_n (pg_name (i := 0) sc__law_by_hand_right.nd rfl (by first | exact Or.inl rfl | exact Or.inr rfl))) (sgs_cons (sg_n (pg_name (i := 1) sc__law_by_hand_right.nd rfl (by first | exact Or.inl rfl | exact Or.inr rfl))) (sgs_cons (sg_n (pg_name (i := 2) sc__law_by_hand_right.nd rfl (by first | exact Or.inl rfl | exact Or.inr rfl))) (sgs_cons (sg_n (pg_name (i := 3) sc__law_by_hand_right.nd rfl (by first | exact Or.inl rfl | exact Or.inr rfl))) sgs_nil rfl) rfl) rfl) rfl) rfl rfl) (by rfl) (by rfl) (by rfl))
      (ss_cons (ss_par (i := 5) (j := 6) rfl sc__law_by_hand_right.nd rfl rfl (by decide) rfl rfl (sa_cons (se_tup (sa_cons se_str (sa_cons se_int (sa_cons (se_tup (sa_cons (se_tup (sa_cons se_str (sa_cons se_int (sa_cons (se_tup (sa_cons (se_tup (sa_cons se_str (sa_cons se_int (sa_cons (se_tup (sa_cons (se_w 0) (sa_cons (se_w 1) sa_nil rfl) rfl)) sa_nil rfl) rfl) rfl)) (sa_cons (se_w 2) sa_nil rfl) rfl)) sa_nil rfl) rfl) rfl)) (sa_cons (se_w 3) sa_nil rfl) rfl)) sa_nil rfl) rfl) rfl)) (sa_cons (se_tup (sa_cons se_str (sa_cons se_int (sa_cons (se_tup (sa_cons (se_w 0) (sa_cons (se_tup (sa_cons se_str (sa_cons se_int (sa_cons (se_tup (sa_cons (se_w 1) (sa_cons (se_tup (sa_cons se_str (sa_cons se_int (sa_cons (se_tup (sa_cons (se_w 2) (sa_cons (se_w 3) sa_nil rfl) rfl)) sa_nil rfl) rfl) rfl)) sa_nil rfl) rfl)) sa_nil rfl) rfl) rfl)) sa_nil rfl) rfl)) sa_nil rfl) rfl) rfl)) sa_nil rfl) rfl) (by rfl) (by rfl))
      (ss_cons (ss_set (i := 7) sc__law_by_hand_right.nd rfl (by first | exact Or.inl rfl | exact Or.inr rfl) (se_tup (sa_cons se_str (sa_cons se_int (sa_cons (se_tup (sa_cons (se_tup (sa_cons se_str (sa_cons se_int (sa_cons (se_tup (sa_cons (se_tup (sa_cons se_str (sa_cons se_int (sa_cons (se_tup (sa_cons (se_w 0) (sa_cons (se_w 1) sa_nil rfl) rfl)) sa_nil rfl) rfl) rfl)) (sa_cons (se_w 2) sa_nil rfl) rfl)) sa_nil rfl) rfl) rfl)) sa_nil rfl)) sa_nil rfl) rfl) rfl)) rfl (by first | exact Or.inl rfl | exact Or.inr rfl))
      (ss_cons (ss_set (i := 8) sc__law_by_hand_right.nd rfl (by first | exact Or.inl rfl | exact Or.inr rfl) (se_lst (sa_cons (se_call D.d5 (takes_of rfl rfl rfl rfl) (hr.mono (Nat.le_succ _)) rfl (sa_cons (se_w 5) (sa_cons se_int sa_nil rfl) rfl) (by decide) rfl rfl rfl) (sa_cons (se_call D.d5 (takes_of rfl rfl rfl rfl) (hr.mono (Nat.le_succ _)) rfl (sa_cons (se_w 7) (sa_cons se_int sa_nil rfl) rfl) (by decide) rfl rfl rfl) (sa_cons (se_call D.d5 (takes_of rfl rfl rfl rfl) (hr.mono (Nat.le_succ _)) rfl (sa_cons (se_tup (sa_cons se_str (sa_cons se_int (sa_cons (se_tup (sa_cons (se_tup (sa_cons se_str (sa_cons se_int (sa_cons (se_tup (sa_cons (se_w 0) (sa_cons (se_w 1) sa_nil rfl) rfl)) sa_nil rfl) rfl) rfl)) (sa_cons (se_w 2) (sa_cons (se_w 3) sa_nil rfl) rfl) rfl)) sa_nil rfl) rfl) rfl)) (sa_cons se_int sa_nil rfl) rfl) (by decide) rfl rfl rfl) (sa_cons (se_call D.d7 (takes_of rfl rfl rfl rfl) (hr.mono (Nat.le_succ _)) rfl (sa_cons (se_w 5) (sa_cons (se_w 6) (sa_cons se_int sa_nil rfl) rfl) rfl) (by decide) rfl rfl rfl) (sa_cons (se_call D.d7 (takes_of rfl rfl rfl rfl) (hr.mono (Nat.le_succ _)) rfl (sa_cons (se_w 5) (sa_cons (se_w 6) (sa_cons se_int sa_nil rfl) rfl) rfl) (by decide) rfl rfl rfl) sa_nil rfl) rfl) rfl) rfl) rfl)) rfl (by first | exact Or.inl rfl | exact Or.inr rfl))
      (ss_cons (ss_set (i := 9) sc__law_by_hand_right.nd rfl (by first | exact Or.inl rfl | exact Or.inr rfl) (se_lst (sa_cons (se_w 6) (sa_cons (se_tup (sa_cons se_str (sa_cons se_int (sa_cons (se_tup (sa_cons (se_tup (sa_cons se_str (sa_cons se_int (sa_cons (se_tup (sa_cons (se_w 0) (sa_cons (se_tup (sa_cons se_str (sa_cons se_int (sa_cons (se_tup (sa_cons (se_w 1) (sa_cons (se_w 2) sa_nil rfl) rfl)) sa_nil rfl) rfl) rfl)) sa_nil rfl) rfl)) sa_nil rfl) rfl) rfl)) sa_nil rfl)) sa_nil rfl) rfl) rfl)) (sa_cons (se_tup (sa_cons se_str (sa_cons se_int (sa_cons (se_tup (sa_cons (se_tup (sa_cons se_str (sa_cons se_int (sa_cons (se_tup (sa_cons (se_w 0) (sa_cons (se_w 1) sa_nil rfl) rfl)) sa_nil rfl) rfl) rfl)) (sa_cons (se_w 2) (sa_cons (se_w 3) sa_nil rfl) rfl) rfl)) sa_nil rfl) rfl) rfl)) (sa_cons se_bl (sa_cons se_bl sa_nil rfl) rfl) rfl) rfl) rfl)) rfl (by first | exact Or.inl rfl | exact Or.inr rfl))
      (ss_cons (ss_ret (se_call D.d11 (takes_of rfl rfl rfl rfl) (hr.mono (Nat.le_succ _)) rfl (sa_cons (se_w 8) (sa_cons (se_w 9) sa_nil rfl) rfl) (by decide) rfl rfl rfl))
      ss_nil)))))))
theorem ok_law (F : Fun K "law" "law" s_law f fd) (hK : K = G.K) (hP : P = G.prog) (hW : w = G.wo) (hX : GX G NM TX) (D : Ds P w K mg base G cl T d) : FnE P w K mg base (2 * d + 3 + 1) f fd ["script"] G cl (runB 1 (F_law T)) :=
  ok_E F sc_law fun cdv A outer s H E hr => by
    have hu := hr.units
    exact (ss_cons (ss_ret (se_and (se_call0 D.d22 (takes_of rfl rfl rfl rfl) (hr.mono (Nat.le_succ _)) rfl (by decide)) (se_one (se_call D.d21 (takes_of rfl rfl rfl rfl) (hr.mono (Nat.le_succ _)) rfl (sa_cons (se_call D.d8 (takes_of rfl rfl rfl rfl) (hr.mono (Nat.le_succ _)) rfl (sa_cons (se_call D.d10 (takes_of rfl rfl rfl rfl) (hr.mono (Nat.le_succ _)) rfl (sa_cons (se_w 0) (sa_cons se_int sa_nil rfl) rfl) (by decide) rfl rfl rfl) (sa_cons se_int sa_nil rfl) rfl) (by decide) rfl rfl rfl) sa_nil rfl) (by decide) rfl rfl rfl))))
      ss_nil)
end
end L37
namespace L37
open PySem PySem.Spec PyProof.Rows L2 EV
section
variable {P : Program} {w : World} {K : PySem.W.Frag} {mg : Str → Option Value} {base : Heap} {G : GC} {cl : Cls} {T : Tab} {d : Nat}
theorem ok_l24 (hK : K = G.K) (hP : P = G.prog) (hW : w = G.wo) (hX : GX G NM TX) (D : Ds P w K mg base G cl T d) : ClE P w K mg base G cl (2 * d + 3 + 1) t_24 (runB 1 (F_l24 T)) :=
  ok_CEf (N := ["part"]) (fs := F_l24 T) (t := t_24) (k := 2 * d + 3) rfl S_24 rfl fun cls c f A outer s H E hr => by
    have hu := hr.units
    exact (se_w 0)
theorem ok_l25 (hK : K = G.K) (hP : P = G.prog) (hW : w = G.wo) (hX : GX G NM TX) (D : Ds P w K mg base G cl T d) : ClE P w K mg base G cl (2 * d + 3 + 1) t_25 (runB 3 (F_l25 T)) :=
  ok_CEf (N := ["own", "terms", "maker"]) (fs := F_l25 T) (t := t_25) (k := 2 * d + 3) rfl S_25 rfl fun cls c f A outer s H E hr => by
    have hu := hr.units
    exact (se_call D.d6 (takes_of rfl rfl rfl rfl) (hr.mono (Nat.le_succ _)) rfl (sa_cons (se_w 0) (sa_cons (se_w 1) (sa_cons (se_w 2) sa_nil rfl) rfl) rfl) (by decide) rfl rfl rfl)
end
end L37
namespace L37
open PySem PySem.Spec PyProof.Rows L2 EV
section
variable {P : Program} {w : World} {K : PySem.W.Frag} {mg : Str → Option Value} {cs ls : List (Addr × Addr)} {Cs : List Addr}
theorem all_ds {base : Heap} (TB : ∀ p ∈ cs ++ ls, GxR.TabB base mg p.1 p.2) {b5 t5 : Addr}
    (A0 : At K mg "frozen" s_frozen ["value"])
    (A1 : At K mg "_holds_list" s__holds_list ["value"])
    (A2 : At K mg "occurrences" s_occurrences ["term"])
    (A3 : At K mg "folded" s_folded ["term", "of_leaf", "of_make"])
    (A4 : At K mg "making" s_making ["maker", "terms"])
    (A5 : AtC K mg "combed" s_combed ["one", "maker"] b5 t5) (T5 : (b5, t5) ∈ ls)
    (A6 : At K mg "_combed_making" s__combed_making ["own", "terms", "maker"])
    (A7 : At K mg "alike_by" s_alike_by ["one", "other", "maker"])
    (A8 : At K mg "_law_box" s__law_box ["script", "k"])
    (A9 : At K mg "_law_take" s__law_take ["tin", "below"])
    (A10 : At K mg "_law_cells" s__law_cells ["script", "most"])
    (A11 : At K mg "_law_same" s__law_same ["got", "goal"])
    (A12 : At K mg "_law_lists" s__law_lists ["matter"])
    (A13 : At K mg "_law_of" s__law_of ["tin", "goods"])
    (A14 : At K mg "_law_tree" s__law_tree ["tin", "deep", "kind"])
    (A15 : At K mg "_law_spots" s__law_spots ["tree", "maker"])
    (A16 : At K mg "_law_is_two" s__law_is_two ["tree", "maker"])
    (A17 : At K mg "_law_moved" s__law_moved ["tree", "way"])
    (A18 : At K mg "_law_all_moved" s__law_all_moved ["tin", "tree", "maker"])
    (A19 : At K mg "_law_turned" s__law_turned ["tin", "tree", "maker"])
    (A20 : At K mg "_law_bent" s__law_bent ["tin", "tree"])
    (A21 : At K mg "_law_right" s__law_right ["tin"])
    (A22 : At K mg "_law_by_hand_right" s__law_by_hand_right [])
    (A23 : At K mg "law" s_law ["script"])
    (m_abs : mg "abs" = none)
    (m_all : mg "all" = none)
    (m_bool : mg "bool" = none)
    (m_enumerate : mg "enumerate" = none)
    (m_int : mg "int" = none)
    (m_isinstance : mg "isinstance" = none)
    (m_len : mg "len" = none)
    (m_list : mg "list" = none)
    (m_range : mg "range" = none)
    (m_reversed : mg "reversed" = none)
    (m_str : mg "str" = none)
    (m_tuple : mg "tuple" = none)
    (m_zip : mg "zip" = none) : ∀ d, Ds P w K mg base (gcOf K (assoc []) cs ls P w (nmOf NM) (assoc TX) (assoc [])) (clOf Cs) (callE d) d
  | 0 => {
      d0 := A0.dfe fun f fd F => no_ok,
      d1 := A1.dfe fun f fd F => no_ok,
      d2 := A2.dfe fun f fd F => no_ok,
      d3 := A3.dfe fun f fd F => no_ok,
      d4 := A4.dfe fun f fd F => no_ok,
      d5 := A5.dfe fun f fd F => no_ok,
      d6 := A6.dfe fun f fd F => no_ok,
      d7 := A7.dfe fun f fd F => no_ok,
      d8 := A8.dfe fun f fd F => no_ok,
      d9 := A9.dfe fun f fd F => no_ok,
      d10 := A10.dfe fun f fd F => no_ok,
      d11 := A11.dfe fun f fd F => no_ok,
      d12 := A12.dfe fun f fd F => no_ok,
      d13 := A13.dfe fun f fd F => no_ok,
      d14 := A14.dfe fun f fd F => no_ok,
      d15 := A15.dfe fun f fd F => no_ok,
      d16 := A16.dfe fun f fd F => no_ok,
      d17 := A17.dfe fun f fd F => no_ok,
      d18 := A18.dfe fun f fd F => no_ok,
      d19 := A19.dfe fun f fd F => no_ok,
      d20 := A20.dfe fun f fd F => no_ok,
      d21 := A21.dfe fun f fd F => no_ok,
      d22 := A22.dfe fun f fd F => no_ok,
      d23 := A23.dfe fun f fd F => no_ok,
      cal := ⟨assoc_nil, (assoc_cons ⟨_, no_cl, fun _ _ => arG_no⟩ (assoc_cons ⟨_, no_cl, fun _ _ => arG_no⟩ assoc_nil))⟩ }
  | d + 1 =>
    have D := all_ds TB A0 A1 A2 A3 A4 A5 T5 A6 A7 A8 A9 A10 A11 A12 A13 A14 A15 A16 A17 A18 A19 A20 A21 A22 A23 m_abs m_all m_bool m_enumerate m_int m_isinstance m_len m_list m_range m_reversed m_str m_tuple m_zip d
    {
      d0 := A0.dfe fun f fd F => ok_frozen (T := callE d) (d := d) F rfl rfl rfl ⟨rfl, rfl⟩ D m_isinstance m_len m_list m_reversed m_tuple,
      d1 := A1.dfe fun f fd F => ok__holds_list (T := callE d) (d := d) F rfl rfl rfl ⟨rfl, rfl⟩ D m_isinstance m_list m_tuple,
      d2 := A2.dfe fun f fd F => ok_occurrences (T := callE d) (d := d) F rfl rfl rfl ⟨rfl, rfl⟩ D,
      d3 := A3.dfe fun f fd F => ok_folded (T := callE d) (d := d) F rfl rfl rfl ⟨rfl, rfl⟩ D m_len,
      d4 := A4.dfe fun f fd F => ok_making (T := callE d) (d := d) F rfl rfl rfl ⟨rfl, rfl⟩ D m_tuple,
      d5 := A5.dfe fun f fd F => ok_combed (T := callE d) (d := d) F (TB _ (List.mem_append_right _ T5)) (List.mem_map.mpr ⟨_, T5, rfl⟩) rfl rfl rfl ⟨rfl, rfl⟩ D,
      d6 := A6.dfe fun f fd F => ok__combed_making (T := callE d) (d := d) F rfl rfl rfl ⟨rfl, rfl⟩ D m_len,
      d7 := A7.dfe fun f fd F => ok_alike_by (T := callE d) (d := d) F rfl rfl rfl ⟨rfl, rfl⟩ D,
      d8 := A8.dfe fun f fd F => ok__law_box (T := callE d) (d := d) F rfl rfl rfl ⟨rfl, rfl⟩ D m_abs m_int m_len,
      d9 := A9.dfe fun f fd F => ok__law_take (T := callE d) (d := d) F rfl rfl rfl ⟨rfl, rfl⟩ D m_int,
      d10 := A10.dfe fun f fd F => ok__law_cells (T := callE d) (d := d) F rfl rfl rfl ⟨rfl, rfl⟩ D m_enumerate m_int m_list,
      d11 := A11.dfe fun f fd F => ok__law_same (T := callE d) (d := d) F rfl rfl rfl ⟨rfl, rfl⟩ D m_all m_bool m_int m_isinstance m_len m_list m_str m_tuple m_zip,
      d12 := A12.dfe fun f fd F => ok__law_lists (T := callE d) (d := d) F rfl rfl rfl ⟨rfl, rfl⟩ D m_isinstance m_list m_tuple,
      d13 := A13.dfe fun f fd F => ok__law_of (T := callE d) (d := d) F rfl rfl rfl ⟨rfl, rfl⟩ D m_len,
      d14 := A14.dfe fun f fd F => ok__law_tree (T := callE d) (d := d) F rfl rfl rfl ⟨rfl, rfl⟩ D m_range m_tuple,
      d15 := A15.dfe fun f fd F => ok__law_spots (T := callE d) (d := d) F rfl rfl rfl ⟨rfl, rfl⟩ D m_enumerate m_len,
      d16 := A16.dfe fun f fd F => ok__law_is_two (T := callE d) (d := d) F rfl rfl rfl ⟨rfl, rfl⟩ D m_len,
      d17 := A17.dfe fun f fd F => ok__law_moved (T := callE d) (d := d) F rfl rfl rfl ⟨rfl, rfl⟩ D,
      d18 := A18.dfe fun f fd F => ok__law_all_moved (T := callE d) (d := d) F rfl rfl rfl ⟨rfl, rfl⟩ D m_range,
      d19 := A19.dfe fun f fd F => ok__law_turned (T := callE d) (d := d) F rfl rfl rfl ⟨rfl, rfl⟩ D m_len m_tuple,
      d20 := A20.dfe fun f fd F => ok__law_bent (T := callE d) (d := d) F rfl rfl rfl ⟨rfl, rfl⟩ D m_len,
      d21 := A21.dfe fun f fd F => ok__law_right (T := callE d) (d := d) F rfl rfl rfl ⟨rfl, rfl⟩ D m_int,
      d22 := A22.dfe fun f fd F => ok__law_by_hand_right (T := callE d) (d := d) F rfl rfl rfl ⟨rfl, rfl⟩ D m_range,
      d23 := A23.dfe fun f fd F => ok_law (T := callE d) (d := d) F rfl rfl rfl ⟨rfl, rfl⟩ D,
      cal := ⟨assoc_nil, (assoc_cons ⟨_, ok_l24 (T := callE d) (d := d) rfl rfl rfl ⟨rfl, rfl⟩ D, fun _ _ => rfl⟩ (assoc_cons ⟨_, ok_l25 (T := callE d) (d := d) rfl rfl rfl ⟨rfl, rfl⟩ D, fun _ _ => rfl⟩ assoc_nil))⟩ }
theorem law_at {fa : Addr} (hfa : mg "law" = some (.ref fa)) {b5 t5 : Addr}
    (A0 : At K mg "frozen" s_frozen ["value"])
    (A1 : At K mg "_holds_list" s__holds_list ["value"])
    (A2 : At K mg "occurrences" s_occurrences ["term"])
    (A3 : At K mg "folded" s_folded ["term", "of_leaf", "of_make"])
    (A4 : At K mg "making" s_making ["maker", "terms"])
    (A5 : AtC K mg "combed" s_combed ["one", "maker"] b5 t5) (T5 : (b5, t5) ∈ ls)
    (A6 : At K mg "_combed_making" s__combed_making ["own", "terms", "maker"])
    (A7 : At K mg "alike_by" s_alike_by ["one", "other", "maker"])
    (A8 : At K mg "_law_box" s__law_box ["script", "k"])
    (A9 : At K mg "_law_take" s__law_take ["tin", "below"])
    (A10 : At K mg "_law_cells" s__law_cells ["script", "most"])
    (A11 : At K mg "_law_same" s__law_same ["got", "goal"])
    (A12 : At K mg "_law_lists" s__law_lists ["matter"])
    (A13 : At K mg "_law_of" s__law_of ["tin", "goods"])
    (A14 : At K mg "_law_tree" s__law_tree ["tin", "deep", "kind"])
    (A15 : At K mg "_law_spots" s__law_spots ["tree", "maker"])
    (A16 : At K mg "_law_is_two" s__law_is_two ["tree", "maker"])
    (A17 : At K mg "_law_moved" s__law_moved ["tree", "way"])
    (A18 : At K mg "_law_all_moved" s__law_all_moved ["tin", "tree", "maker"])
    (A19 : At K mg "_law_turned" s__law_turned ["tin", "tree", "maker"])
    (A20 : At K mg "_law_bent" s__law_bent ["tin", "tree"])
    (A21 : At K mg "_law_right" s__law_right ["tin"])
    (A22 : At K mg "_law_by_hand_right" s__law_by_hand_right [])
    (A23 : At K mg "law" s_law ["script"])
    (m_abs : mg "abs" = none)
    (m_all : mg "all" = none)
    (m_bool : mg "bool" = none)
    (m_enumerate : mg "enumerate" = none)
    (m_int : mg "int" = none)
    (m_isinstance : mg "isinstance" = none)
    (m_len : mg "len" = none)
    (m_list : mg "list" = none)
    (m_range : mg "range" = none)
    (m_reversed : mg "reversed" = none)
    (m_str : mg "str" = none)
    (m_tuple : mg "tuple" = none)
    (m_zip : mg "zip" = none) : LawE P w K mg "script" (assoc []) cs ls (nmOf NM) (assoc TX) (assoc []) (clOf Cs) (runB 1 (F_law (callE 113))) fa :=
  A23.law hfa fun base kb nb TB f fd F => ok_law (T := callE 113) (d := 113) F rfl rfl rfl ⟨rfl, rfl⟩ (all_ds TB A0 A1 A2 A3 A4 A5 T5 A6 A7 A8 A9 A10 A11 A12 A13 A14 A15 A16 A17 A18 A19 A20 A21 A22 A23 m_abs m_all m_bool m_enumerate m_int m_isinstance m_len m_list m_range m_reversed m_str m_tuple m_zip 113)
end
end L37
open PySem PySem.W PyProof.Rows
set_option maxHeartbeats 0
theorem L37.zfill : L37.hd.heap_39 = L37.hd.heap_39 ∧ PySem.Challenge.rw_unwound_k37_whole_combed_beside_single_m = PySem.Challenge.rw_unwound_k37_whole_combed_beside_single_m := by
  k_fill
  exact ⟨rfl, rfl⟩
theorem L37.zA0 {w : World} {mg : Str → Option Value} {h : Heap} (KX : (L37.hd.heap_39 w.params).In h) (N : h.Ns mainGlobals mg) : EV.At (L37.hd.heap_39 w.params) mg "frozen" L37.s_frozen ["value"] := EV.at_mk KX N (by k_is) (by k_is) (by k_is) (by k_is) (fun _ _ _ _ _ _ us hl => match us, hl with | [_], _ => rfl)
theorem L37.zA1 {w : World} {mg : Str → Option Value} {h : Heap} (KX : (L37.hd.heap_39 w.params).In h) (N : h.Ns mainGlobals mg) : EV.At (L37.hd.heap_39 w.params) mg "_holds_list" L37.s__holds_list ["value"] := EV.at_mk KX N (by k_is) (by k_is) (by k_is) (by k_is) (fun _ _ _ _ _ _ us hl => match us, hl with | [_], _ => rfl)
theorem L37.zA2 {w : World} {mg : Str → Option Value} {h : Heap} (KX : (L37.hd.heap_39 w.params).In h) (N : h.Ns mainGlobals mg) : EV.At (L37.hd.heap_39 w.params) mg "occurrences" L37.s_occurrences ["term"] := EV.at_mk KX N (by k_is) (by k_is) (by k_is) (by k_is) (fun _ _ _ _ _ _ us hl => match us, hl with | [_], _ => rfl)
theorem L37.zA3 {w : World} {mg : Str → Option Value} {h : Heap} (KX : (L37.hd.heap_39 w.params).In h) (N : h.Ns mainGlobals mg) : EV.At (L37.hd.heap_39 w.params) mg "folded" L37.s_folded ["term", "of_leaf", "of_make"] := EV.at_mk KX N (by k_is) (by k_is) (by k_is) (by k_is) (fun _ _ _ _ _ _ us hl => match us, hl with | [_, _, _], _ => rfl)
theorem L37.zA4 {w : World} {mg : Str → Option Value} {h : Heap} (KX : (L37.hd.heap_39 w.params).In h) (N : h.Ns mainGlobals mg) : EV.At (L37.hd.heap_39 w.params) mg "making" L37.s_making ["maker", "terms"] := EV.at_mk KX N (by k_is) (by k_is) (by k_is) (by k_is) (fun _ _ _ _ _ _ us hl => match us, hl with | [_, _], _ => rfl)
theorem L37.zA6 {w : World} {mg : Str → Option Value} {h : Heap} (KX : (L37.hd.heap_39 w.params).In h) (N : h.Ns mainGlobals mg) : EV.At (L37.hd.heap_39 w.params) mg "_combed_making" L37.s__combed_making ["own", "terms", "maker"] := EV.at_mk KX N (by k_is) (by k_is) (by k_is) (by k_is) (fun _ _ _ _ _ _ us hl => match us, hl with | [_, _, _], _ => rfl)
theorem L37.zA7 {w : World} {mg : Str → Option Value} {h : Heap} (KX : (L37.hd.heap_39 w.params).In h) (N : h.Ns mainGlobals mg) : EV.At (L37.hd.heap_39 w.params) mg "alike_by" L37.s_alike_by ["one", "other", "maker"] := EV.at_mk KX N (by k_is) (by k_is) (by k_is) (by k_is) (fun _ _ _ _ _ _ us hl => match us, hl with | [_, _, _], _ => rfl)
theorem L37.zA8 {w : World} {mg : Str → Option Value} {h : Heap} (KX : (L37.hd.heap_39 w.params).In h) (N : h.Ns mainGlobals mg) : EV.At (L37.hd.heap_39 w.params) mg "_law_box" L37.s__law_box ["script", "k"] := EV.at_mk KX N (by k_is) (by k_is) (by k_is) (by k_is) (fun _ _ _ _ _ _ us hl => match us, hl with | [_, _], _ => rfl)
theorem L37.zA9 {w : World} {mg : Str → Option Value} {h : Heap} (KX : (L37.hd.heap_39 w.params).In h) (N : h.Ns mainGlobals mg) : EV.At (L37.hd.heap_39 w.params) mg "_law_take" L37.s__law_take ["tin", "below"] := EV.at_mk KX N (by k_is) (by k_is) (by k_is) (by k_is) (fun _ _ _ _ _ _ us hl => match us, hl with | [_, _], _ => rfl)
theorem L37.zA10 {w : World} {mg : Str → Option Value} {h : Heap} (KX : (L37.hd.heap_39 w.params).In h) (N : h.Ns mainGlobals mg) : EV.At (L37.hd.heap_39 w.params) mg "_law_cells" L37.s__law_cells ["script", "most"] := EV.at_mk KX N (by k_is) (by k_is) (by k_is) (by k_is) (fun _ _ _ _ _ _ us hl => match us, hl with | [_, _], _ => rfl)
theorem L37.zA11 {w : World} {mg : Str → Option Value} {h : Heap} (KX : (L37.hd.heap_39 w.params).In h) (N : h.Ns mainGlobals mg) : EV.At (L37.hd.heap_39 w.params) mg "_law_same" L37.s__law_same ["got", "goal"] := EV.at_mk KX N (by k_is) (by k_is) (by k_is) (by k_is) (fun _ _ _ _ _ _ us hl => match us, hl with | [_, _], _ => rfl)
theorem L37.zA12 {w : World} {mg : Str → Option Value} {h : Heap} (KX : (L37.hd.heap_39 w.params).In h) (N : h.Ns mainGlobals mg) : EV.At (L37.hd.heap_39 w.params) mg "_law_lists" L37.s__law_lists ["matter"] := EV.at_mk KX N (by k_is) (by k_is) (by k_is) (by k_is) (fun _ _ _ _ _ _ us hl => match us, hl with | [_], _ => rfl)
theorem L37.zA13 {w : World} {mg : Str → Option Value} {h : Heap} (KX : (L37.hd.heap_39 w.params).In h) (N : h.Ns mainGlobals mg) : EV.At (L37.hd.heap_39 w.params) mg "_law_of" L37.s__law_of ["tin", "goods"] := EV.at_mk KX N (by k_is) (by k_is) (by k_is) (by k_is) (fun _ _ _ _ _ _ us hl => match us, hl with | [_, _], _ => rfl)
theorem L37.zA14 {w : World} {mg : Str → Option Value} {h : Heap} (KX : (L37.hd.heap_39 w.params).In h) (N : h.Ns mainGlobals mg) : EV.At (L37.hd.heap_39 w.params) mg "_law_tree" L37.s__law_tree ["tin", "deep", "kind"] := EV.at_mk KX N (by k_is) (by k_is) (by k_is) (by k_is) (fun _ _ _ _ _ _ us hl => match us, hl with | [_, _, _], _ => rfl)
theorem L37.zA15 {w : World} {mg : Str → Option Value} {h : Heap} (KX : (L37.hd.heap_39 w.params).In h) (N : h.Ns mainGlobals mg) : EV.At (L37.hd.heap_39 w.params) mg "_law_spots" L37.s__law_spots ["tree", "maker"] := EV.at_mk KX N (by k_is) (by k_is) (by k_is) (by k_is) (fun _ _ _ _ _ _ us hl => match us, hl with | [_, _], _ => rfl)
theorem L37.zA16 {w : World} {mg : Str → Option Value} {h : Heap} (KX : (L37.hd.heap_39 w.params).In h) (N : h.Ns mainGlobals mg) : EV.At (L37.hd.heap_39 w.params) mg "_law_is_two" L37.s__law_is_two ["tree", "maker"] := EV.at_mk KX N (by k_is) (by k_is) (by k_is) (by k_is) (fun _ _ _ _ _ _ us hl => match us, hl with | [_, _], _ => rfl)
theorem L37.zA17 {w : World} {mg : Str → Option Value} {h : Heap} (KX : (L37.hd.heap_39 w.params).In h) (N : h.Ns mainGlobals mg) : EV.At (L37.hd.heap_39 w.params) mg "_law_moved" L37.s__law_moved ["tree", "way"] := EV.at_mk KX N (by k_is) (by k_is) (by k_is) (by k_is) (fun _ _ _ _ _ _ us hl => match us, hl with | [_, _], _ => rfl)
theorem L37.zA18 {w : World} {mg : Str → Option Value} {h : Heap} (KX : (L37.hd.heap_39 w.params).In h) (N : h.Ns mainGlobals mg) : EV.At (L37.hd.heap_39 w.params) mg "_law_all_moved" L37.s__law_all_moved ["tin", "tree", "maker"] := EV.at_mk KX N (by k_is) (by k_is) (by k_is) (by k_is) (fun _ _ _ _ _ _ us hl => match us, hl with | [_, _, _], _ => rfl)
theorem L37.zA19 {w : World} {mg : Str → Option Value} {h : Heap} (KX : (L37.hd.heap_39 w.params).In h) (N : h.Ns mainGlobals mg) : EV.At (L37.hd.heap_39 w.params) mg "_law_turned" L37.s__law_turned ["tin", "tree", "maker"] := EV.at_mk KX N (by k_is) (by k_is) (by k_is) (by k_is) (fun _ _ _ _ _ _ us hl => match us, hl with | [_, _, _], _ => rfl)
theorem L37.zA20 {w : World} {mg : Str → Option Value} {h : Heap} (KX : (L37.hd.heap_39 w.params).In h) (N : h.Ns mainGlobals mg) : EV.At (L37.hd.heap_39 w.params) mg "_law_bent" L37.s__law_bent ["tin", "tree"] := EV.at_mk KX N (by k_is) (by k_is) (by k_is) (by k_is) (fun _ _ _ _ _ _ us hl => match us, hl with | [_, _], _ => rfl)
theorem L37.zA21 {w : World} {mg : Str → Option Value} {h : Heap} (KX : (L37.hd.heap_39 w.params).In h) (N : h.Ns mainGlobals mg) : EV.At (L37.hd.heap_39 w.params) mg "_law_right" L37.s__law_right ["tin"] := EV.at_mk KX N (by k_is) (by k_is) (by k_is) (by k_is) (fun _ _ _ _ _ _ us hl => match us, hl with | [_], _ => rfl)
theorem L37.zA22 {w : World} {mg : Str → Option Value} {h : Heap} (KX : (L37.hd.heap_39 w.params).In h) (N : h.Ns mainGlobals mg) : EV.At (L37.hd.heap_39 w.params) mg "_law_by_hand_right" L37.s__law_by_hand_right [] := EV.at_mk KX N (by k_is) (by k_is) (by k_is) (by k_is) (fun _ _ _ _ _ _ us hl => match us, hl with | [], _ => rfl)
theorem L37.zA23 {w : World} {mg : Str → Option Value} {h : Heap} (KX : (L37.hd.heap_39 w.params).In h) (N : h.Ns mainGlobals mg) : EV.At (L37.hd.heap_39 w.params) mg "law" L37.s_law ["script"] := EV.at_mk KX N (by k_is) (by k_is) (by k_is) (by k_is) (fun _ _ _ _ _ _ us hl => match us, hl with | [_], _ => rfl)
set_option maxHeartbeats 4000000
namespace EV
open PySem PySem.Spec PyProof.Rows L2
section
variable (o : Ob) (a : List W) (x y v i : Int) (sl : List W) (u3 u4 u5 : Option W) (w : W)
end
end EV
namespace EV
open PySem PySem.Spec PyProof.Rows L2
def Res.Wp {α : Type} (r : Res α) (Q : α → Hpe → Prop) (E : Exc → Hpe → Prop) : Prop := match r with
  | .ok a h => Q a h
  | .ex x h => E x h
  | .no => False
structure Po where
  nx : Rho → Hpe → Prop
  rt : W → Hpe → Prop
  bk : Rho → Hpe → Prop
  ct : Rho → Hpe → Prop
  ex : Exc → Rho → Hpe → Prop
def RS.Wp (r : RS) (D : Po) : Prop := match r with
  | .nx ρ h => D.nx ρ h
  | .rt w h => D.rt w h
  | .bk ρ h => D.bk ρ h
  | .ct ρ h => D.ct ρ h
  | .ex x ρ h => D.ex x ρ h
  | .no => False
section
variable {α β : Type} {Q : α → Hpe → Prop} {QW : W → Hpe → Prop} {QB : Bool → Hpe → Prop} {QL : List W → Hpe → Prop} {QO : Option Int → Hpe → Prop} {QS : Src → Hpe → Prop} {E : Exc → Hpe → Prop} {D : Po} {ρ : Rho} {h : Hpe} {f fa fb fc fo fi : FE} {t t1 t2 : FT} {fs : FA} {s s1 s2 : FS} {g : FG} {gs : FGs} {i j n : Nat} {w a b : W} {ws : List W} {g2 : W → W → Hpe → Res W} {gl : List W → Hpe → Res W}
theorem wp_ok {a : α} : (Res.ok a h).Wp Q E = Q a h := rfl
theorem wp_exc {x : Exc} : (Res.ex x h : Res α).Wp Q E = E x h := rfl
theorem wp_no : (Res.no : Res α).Wp Q E = False := rfl
theorem wp_bind {r : Res α} {k : α → Hpe → Res β} {Q : β → Hpe → Prop} : (r.bind k).Wp Q E = r.Wp (fun a h => (k a h).Wp Q E) E := by cases r <;> rfl
theorem wp_bindS {r : Res α} {k : α → Hpe → RS} : (bindS r ρ k).Wp D = r.Wp (fun a h => (k a h).Wp D) (fun x h => D.ex x ρ h) := by cases r <;> rfl
theorem Res.Wp.mono {r : Res α} {Q Q' : α → Hpe → Prop} {E E' : Exc → Hpe → Prop} (e : r.Wp Q E) (q : ∀ a h, Q a h → Q' a h) (x : ∀ a h, E a h → E' a h) : r.Wp Q' E' := by
  cases r with
  | ok a h => exact q a h e
  | ex a h => exact x a h e
  | no => exact e
theorem RS.Wp.mono {r : RS} {D D' : Po} (e : r.Wp D) (a : ∀ ρ h, D.nx ρ h → D'.nx ρ h) (b : ∀ w h, D.rt w h → D'.rt w h) (c : ∀ ρ h, D.bk ρ h → D'.bk ρ h) (d : ∀ ρ h, D.ct ρ h → D'.ct ρ h) (x : ∀ y ρ h, D.ex y ρ h → D'.ex y ρ h) : r.Wp D' := by
  cases r with
  | nx ρ h => exact a _ _ e
  | rt w h => exact b _ _ e
  | bk ρ h => exact c _ _ e
  | ct ρ h => exact d _ _ e
  | ex y ρ h => exact x _ _ _ e
  | no => exact e
theorem wp_cond {c : Bool} {r r' : Res α} : (bif c then r else r').Wp Q E = if c = true then r.Wp Q E else r'.Wp Q E := by cases c <;> rfl
theorem wp_condS {c : Bool} {r r' : RS} : (bif c then r else r').Wp D = if c = true then r.Wp D else r'.Wp D := by cases c <;> rfl
theorem w_nx : (RS.nx ρ h).Wp D = D.nx ρ h := rfl
theorem w_seq : (sSeq s1 s2 ρ h).Wp D = (s1 ρ h).Wp ⟨fun ρ h => (s2 ρ h).Wp D, D.rt, D.bk, D.ct, D.ex⟩ := by
  unfold sSeq
  cases s1 ρ h <;> rfl
theorem w_nil : (sNil ρ h).Wp D = D.nx ρ h := rfl
theorem w_rt : (sRt f ρ h).Wp D = (f ρ h).Wp D.rt (fun x h => D.ex x ρ h) := wp_bindS
theorem w_rtN : (sRtN ρ h).Wp D = D.rt .non h := rfl
theorem w_ex : (sEx f ρ h).Wp D = (f ρ h).Wp (fun _ h => D.nx ρ h) (fun x h => D.ex x ρ h) := wp_bindS
theorem w_as : (sAs f (gN i) ρ h).Wp D = (f ρ h).Wp (fun w h => D.nx (ρ.set i (some w)) h) (fun x h => D.ex x ρ h) := by
  unfold sAs
  rw [wp_bindS]
  simp only [gN, RS.cl, RS.Wp, setR_eq]
theorem w_asG : (sAs f g ρ h).Wp D = (f ρ h).Wp (fun w h => (g w ρ h).cl.Wp D) (fun x h => D.ex x ρ h) := wp_bindS
theorem w_if : (sIf t s1 s2 ρ h).Wp D = (t ρ h).Wp (fun c h => if c = true then (s1 ρ h).Wp D else (s2 ρ h).Wp D) (fun x h => D.ex x ρ h) := by
  unfold sIf
  rw [wp_bindS]
  simp only [wp_condS]
theorem w_par : (sPar i j fs ρ h).Wp D = (fs ρ h).Wp (fun ws h => ws.length = 2 ∧ ∃ w, ws[0]? = some w ∧ ∃ u, ws[1]? = some u ∧ D.nx ((ρ.set i (some w)).set j (some u)) h) (fun x h => D.ex x ρ h) := by
  unfold sPar
  rw [wp_bindS]
  congr 1
  funext ws h1
  match ws with
  | [] => simp [RS.Wp]
  | [_] => simp [RS.Wp]
  | [a, b] => simp [RS.Wp]
  | _ :: _ :: _ :: _ => simp [RS.Wp]
theorem w_rs {k : Nat} : (sRs k ρ h).Wp D = D.ex ⟨k, []⟩ ρ h := rfl
theorem w_au : (sAu i f g2 ρ h).Wp D = ∃ w, ρ[i]? = some (some w) ∧ noClo w = true ∧ (f ρ h).Wp (fun u h1 => (g2 w u h1).Wp (fun z h2 => D.nx (ρ.set i (some z)) h2) (fun x h => D.ex x ρ h)) (fun x h => D.ex x ρ h) := by
  unfold sAu
  rw [nthR_eq]
  match e : ρ[i]? with
  | none => simp [RS.Wp]
  | some none => simp [RS.Wp]
  | some (some w) =>
    simp only [Option.some.injEq, exists_eq_left']
    rw [wp_condS, wp_bindS]
    simp only [wp_bindS, setR_eq, w_nx]
    cases noClo w with
    | true => simp
    | false => simp [RS.Wp]
theorem w_v : (eV i ρ h).Wp QW E = ∃ w, ρ[i]? = some (some w) ∧ noClo w = true ∧ QW w h := by
  unfold eV
  rw [nthR_eq]
  match e : ρ[i]? with
  | none => simp [Res.Wp]
  | some none => simp [Res.Wp]
  | some (some w) =>
    simp only [Option.some.injEq, exists_eq_left']
    rw [wp_cond]
    cases noClo w <;> simp [Res.Wp]
theorem w_k : (eK w ρ h).Wp QW E = QW w h := rfl
theorem w_aN : (aN ρ h).Wp QL E = QL [] h := rfl
theorem w_aC : (aC f fs ρ h).Wp QL E = (f ρ h).Wp (fun w h => (fs ρ h).Wp (fun ws h => QL (w :: ws) h) E) E := by
  unfold aC
  rw [wp_bind]
  simp only [wp_bind, wp_ok]
theorem w_e2 : (e2 g2 fa fb ρ h).Wp QW E = (fa ρ h).Wp (fun a h => (fb ρ h).Wp (fun b h => (g2 a b h).Wp QW E) E) E := by
  unfold e2
  rw [wp_bind]
  simp only [wp_bind]
theorem w_tup : (eTup fs ρ h).Wp QW E = (fs ρ h).Wp (fun ws h => line ws.length = true ∧ QW (.tup ws) h) E := by
  unfold eTup
  rw [wp_bind]
  simp only [wp_cond, wp_ok, wp_no]
  congr 1
  funext ws h
  cases line ws.length <;> simp
theorem w_al {o : Ob} : (h.al o).Wp QW E = (h.nx < 1099511627776 ∧ QW (.ref h.nx) (h.new o)) := by
  unfold Hpe.al
  rw [wp_cond, wp_ok, wp_no]
  by_cases c : h.nx < 1099511627776
  · rw [show Nat.blt h.nx 1099511627776 = true from Nat.ble_eq_true_of_le c]; simp [c]
  · rw [show Nat.blt h.nx 1099511627776 = false by cases q : Nat.blt h.nx 1099511627776 with
      | false => rfl
      | true => exact absurd (Nat.le_of_ble_eq_true q) c]
    simp [c]
theorem w_lst : (eLst fs ρ h).Wp QW E = (fs ρ h).Wp (fun ws h => line ws.length = true ∧ (h.nx < 1099511627776 ∧ QW (.ref h.nx) (h.new (.lst ws)))) E := by
  unfold eLst
  rw [wp_bind]
  simp only [wp_cond, w_al, wp_no]
  congr 1
  funext ws h
  cases line ws.length <;> simp
theorem w_cl : (eCl n gl fs ρ h).Wp QW E = (fs ρ h).Wp (fun ws h => ws.length = n ∧ (gl ws h).Wp QW E) E := by
  unfold eCl
  rw [wp_bind]
  simp only [wp_cond, wp_no]
  congr 1
  funext ws h
  by_cases c : ws.length = n
  · rw [c, Nat.beq_refl]; simp
  · rw [beq_f c]; simp [c]
theorem w_cl0 : (eCl0 gl ρ h).Wp QW E = (gl [] h).Wp QW E := rfl
theorem w_bl : (eBl gl fs ρ h).Wp QW E = (fs ρ h).Wp (fun ws h => (gl ws h).Wp QW E) E := by
  unfold eBl
  rw [wp_bind]
theorem w_asB : (asB f ρ h).Wp QB E = (f ρ h).Wp (fun w h => ∃ b, w = .bl b ∧ QB b h) E := by
  unfold asB
  rw [wp_bind]
  congr 1
  funext w h
  cases w <;> simp [Res.Wp]
theorem w_asT : (asT f ρ h).Wp QB E = (f ρ h).Wp (fun w h => ∃ b, truW w h = some b ∧ QB b h) E := by
  unfold asT
  rw [wp_bind]
  congr 1
  funext w h
  cases truW w h <;> simp [Res.Wp]
theorem w_tNt : (tNt t ρ h).Wp QB E = (t ρ h).Wp (fun b h => QB (!b) h) E := by
  unfold tNt
  rw [wp_bind]
  rfl
theorem w_tAn : (tAn t1 t2 ρ h).Wp QB E = (t1 ρ h).Wp (fun b h => if b = true then (t2 ρ h).Wp QB E else QB false h) E := by
  unfold tAn
  rw [wp_bind]
  simp only [wp_cond, wp_ok]
theorem w_tOr : (tOr' t1 t2 ρ h).Wp QB E = (t1 ρ h).Wp (fun b h => if b = true then QB true h else (t2 ρ h).Wp QB E) E := by
  unfold tOr'
  rw [wp_bind]
  simp only [wp_cond, wp_ok]
theorem w_tYs : (tYs ρ h).Wp QB E = QB true h := rfl
theorem w_eIf : (eIf t fa fb ρ h).Wp QW E = (t ρ h).Wp (fun b h => if b = true then (fa ρ h).Wp QW E else (fb ρ h).Wp QW E) E := by
  unfold eIf
  rw [wp_bind]
  simp only [wp_cond]
theorem w_eAn : (eAn fa fb ρ h).Wp QW E = (fa ρ h).Wp (fun w h => ∃ b, w = .bl b ∧ (if b = true then (fb ρ h).Wp QW E else QW (.bl false) h)) E := by
  unfold eAn
  rw [wp_bind]
  congr 1
  funext w h
  cases w with
  | bl b => cases b <;> simp [Res.Wp]
  | _ => simp [Res.Wp]
theorem w_eNtT : (eNtT f ρ h).Wp QW E = (f ρ h).Wp (fun w h => ∃ b, truW w h = some b ∧ QW (.bl (!b)) h) E := by
  unfold eNtT
  rw [wp_bind]
  congr 1
  funext w h
  cases truW w h <;> simp [Res.Wp]
theorem w_eOrT : (eOrT fa fb ρ h).Wp QW E = (fa ρ h).Wp (fun w h => ∃ b, truW w h = some b ∧ (if b = true then QW w h else (fb ρ h).Wp QW E)) E := by
  unfold eOrT
  rw [wp_bind]
  congr 1
  funext w h
  match truW w h with
  | none => simp [Res.Wp]
  | some true => simp [Res.Wp]
  | some false => simp
theorem w_oS : (oS f ρ h).Wp QO E = (f ρ h).Wp (fun w h => ∃ i, w = .int i ∧ QO (some i) h) E := by
  unfold oS
  rw [wp_bind]
  congr 1
  funext w h
  cases w <;> simp [Res.Wp]
theorem w_oN : (oN ρ h).Wp QO E = QO none h := rfl
theorem w_eIs {k : Kd} : (eIs k f ρ h).Wp QW E = (f ρ h).Wp (fun w h => ∃ b, instW k w h = some b ∧ QW (.bl b) h) E := by
  unfold eIs
  rw [wp_bind]
  congr 1
  funext w h
  cases instW k w h <;> simp [Res.Wp]
theorem w_eIs2 {k k' : Kd} : (eIs2 k k' f ρ h).Wp QW E = (f ρ h).Wp (fun w h => ∃ b, instW k w h = some b ∧ ∃ b', instW k' w h = some b' ∧ QW (.bl (b || b')) h) E := by
  unfold eIs2
  rw [wp_bind]
  congr 1
  funext w h
  cases instW k w h <;> cases instW k' w h <;> simp [Res.Wp]
theorem w_mt {chk : W → Hpe → Bool} {gm : W → List W → Hpe → Res W} : (eMt chk gm fo fs ρ h).Wp QW E = (fo ρ h).Wp (fun w h => chk w h = true ∧ (fs ρ h).Wp (fun ws h => (gm w ws h).Wp QW E) E) E := by
  unfold eMt
  rw [wp_bind]
  simp only [wp_cond, wp_no, wp_bind]
  congr 1
  funext w h
  cases chk w h <;> simp
theorem w_mt0 {chk : W → Hpe → Bool} {gm : W → List W → Hpe → Res W} : (eMt0 chk gm fo ρ h).Wp QW E = (fo ρ h).Wp (fun w h => chk w h = true ∧ (gm w [] h).Wp QW E) E := by
  unfold eMt0
  rw [wp_bind]
  simp only [wp_cond, wp_no]
  congr 1
  funext w h
  cases chk w h <;> simp
end
theorem w_wh {t : FT} {b : FS} {ρ : Rho} {h : Hpe} {D : Po} (I : Nat → Rho → Hpe → Prop) (k0 : Nat) (hk : k0 < 1000000) (h0 : I k0 ρ h)
    (step : ∀ k ρ h, I k ρ h → (t ρ h).Wp (fun c h1 => if c = true then (b ρ h1).Wp ⟨fun ρ h => ∃ k', k' < k ∧ I k' ρ h, D.rt, D.nx, fun ρ h => ∃ k', k' < k ∧ I k' ρ h, D.ex⟩ else D.nx ρ h1) (fun x h => D.ex x ρ h)) : (sWh t b ρ h).Wp D := by
  have main : ∀ (m k : Nat) (ρ : Rho) (h : Hpe), k < m → I k ρ h → (whileE t b m ρ h).Wp D := by
    intro m
    induction m with
    | zero => intro k ρ h q; omega
    | succ m ih =>
      intro k ρ h hk hi
      have st := step k ρ h hi
      unfold whileE
      rw [wp_bindS]
      refine st.mono (fun c h1 q => ?_) (fun _ _ q => q)
      rw [wp_condS]
      cases c with
      | false => exact q
      | true =>
        simp only [if_true] at q ⊢
        cases e : b ρ h1 with
        | nx ρ' h' => rw [e] at q; obtain ⟨k', lt, i'⟩ := q; exact ih k' ρ' h' (by omega) i'
        | ct ρ' h' => rw [e] at q; obtain ⟨k', lt, i'⟩ := q; exact ih k' ρ' h' (by omega) i'
        | bk ρ' h' => rw [e] at q; exact q
        | rt w h' => rw [e] at q; exact q
        | ex x ρ' h' => rw [e] at q; exact q
        | no => rw [e] at q; exact q
  exact main 1000000 k0 ρ h hk h0
theorem w_for {fi : FI} {g : FG} {b : FS} {ρ : Rho} {h : Hpe} {D : Po} (xs : List W) (I : Nat → Rho → Hpe → Prop) (hl : xs.length < 1000000)
    (h0 : (fi ρ h).Wp (fun src h1 => I 0 ρ h1 ∧ ∀ i ρ h, I i ρ h → src h i = some xs[i]?) (fun x h => D.ex x ρ h))
    (step : ∀ i w ρ h, xs[i]? = some w → I i ρ h → (g w ρ h).Wp ⟨fun ρ h => (b ρ h).Wp ⟨I (i + 1), D.rt, D.nx, I (i + 1), D.ex⟩, fun _ _ => False, fun _ _ => False, fun _ _ => False, D.ex⟩)
    (fin : ∀ ρ h, I xs.length ρ h → D.nx ρ h) : (sFor fi g b ρ h).Wp D := by
  unfold sFor
  rw [wp_bindS]
  refine h0.mono (fun src h1 ⟨i0, sr⟩ => ?_) (fun _ _ q => q)
  have main : ∀ (m i : Nat) (ρ : Rho) (h : Hpe), xs.length - i < m → i ≤ xs.length → I i ρ h → (forE src g b m i ρ h).Wp D := by
    intro m
    induction m with
    | zero => intro i ρ h q; omega
    | succ m ih =>
      intro i ρ h hm hi hI
      have e0 := sr i ρ h hI
      by_cases c : i < xs.length
      · have ew : xs[i]? = some xs[i] := List.getElem?_eq_getElem c
        have st := step i _ ρ h ew hI
        rw [ew] at e0
        unfold forE
        rw [e0]
        dsimp only
        cases e : g xs[i] ρ h with
        | nx ρ' h' =>
          rw [e] at st
          have st2 : (b ρ' h').Wp _ := st
          dsimp only
          cases e' : b ρ' h' with
          | nx ρ' h' => rw [e'] at st2; exact ih (i + 1) ρ' h' (by omega) (by omega) st2
          | ct ρ' h' => rw [e'] at st2; exact ih (i + 1) ρ' h' (by omega) (by omega) st2
          | bk ρ' h' => rw [e'] at st2; exact st2
          | rt w h' => rw [e'] at st2; exact st2
          | ex x ρ' h' => rw [e'] at st2; exact st2
          | no => rw [e'] at st2; exact st2
        | ct ρ' h' => rw [e] at st; exact st.elim
        | bk ρ' h' => rw [e] at st; exact st.elim
        | rt w h' => rw [e] at st; exact st.elim
        | ex x ρ' h' => rw [e] at st; exact st
        | no => rw [e] at st; exact st
      · have : i = xs.length := by omega
        subst this
        rw [List.getElem?_eq_none (Nat.le_refl _)] at e0
        unfold forE
        rw [e0]
        exact fin ρ h hI
  exact main 1000000 0 ρ h1 (by omega) (by omega) i0
theorem w_lc {fi : FI} {g : FG} {t : FT} {fe : FE} {vs : List Nat} {ρ : Rho} {h : Hpe} {Q : W → Hpe → Prop} {E : Exc → Hpe → Prop} (xs : List W) (I : Nat → List W → Hpe → Prop) (hl : xs.length < 100000)
    (h0 : (fi ρ h).Wp (fun src h1 => I 0 [] h1 ∧ ∀ i ys h, I i ys h → src h i = some xs[i]?) E)
    (step : ∀ i w ys h, xs[i]? = some w → I i ys h → (g w (wipeR ρ vs) h).Wp ⟨fun ρ' h => (t ρ' h).Wp (fun b h => if b = true then (fe ρ' h).Wp (fun y h => I (i + 1) (ys ++ [y]) h) (fun _ _ => False) else I (i + 1) ys h) (fun _ _ => False), fun _ _ => False, fun _ _ => False, fun _ _ => False, fun _ _ _ => False⟩)
    (fin : ∀ ys h, I xs.length ys h → h.nx < 1099511627776 ∧ Q (.ref h.nx) (h.new (.lst ys))) : (eLc fi g t fe vs ρ h).Wp Q E := by
  unfold eLc
  rw [wp_bind]
  refine h0.mono (fun src h1 ⟨i0, sr⟩ => ?_) (fun _ _ q => q)
  have main : ∀ (m i : Nat) (acc : List W) (h : Hpe), xs.length - i < m → i ≤ xs.length → I i acc.reverse h → (lcE src g t fe (wipeR ρ vs) m i acc h).Wp Q E := by
    intro m
    induction m with
    | zero => intro i acc h q; omega
    | succ m ih =>
      intro i acc h hm hi hI
      have e0 := sr i _ h hI
      by_cases c : i < xs.length
      · have ew : xs[i]? = some xs[i] := List.getElem?_eq_getElem c
        have st := step i _ _ h ew hI
        rw [ew] at e0
        unfold lcE
        rw [e0]
        dsimp only
        cases e : g xs[i] (wipeR ρ vs) h with
        | nx ρ' h' =>
          rw [e] at st
          have st2 : (t ρ' h').Wp _ _ := st
          dsimp only
          cases e' : t ρ' h' with
          | ok b h2 =>
            rw [e'] at st2
            dsimp only
            cases b with
            | false => exact ih (i + 1) acc h2 (by omega) (by omega) st2
            | true =>
              simp only [cond_true]
              have st3 : (fe ρ' h2).Wp _ _ := st2
              cases e'' : fe ρ' h2 with
              | ok y h3 =>
                rw [e''] at st3
                dsimp only
                rw [show line i = true from Nat.ble_eq_true_of_le (by omega)]
                simp only [cond_true]
                refine ih (i + 1) (y :: acc) h3 (by omega) (by omega) ?_
                rw [List.reverse_cons]
                exact st3
              | ex x h3 => rw [e''] at st3; exact st3.elim
              | no => rw [e''] at st3; exact st3.elim
          | ex x h2 => rw [e'] at st2; exact st2.elim
          | no => rw [e'] at st2; exact st2.elim
        | ct ρ' h' => rw [e] at st; exact st.elim
        | bk ρ' h' => rw [e] at st; exact st.elim
        | rt w h' => rw [e] at st; exact st.elim
        | ex x ρ' h' => rw [e] at st; exact st.elim
        | no => rw [e] at st; exact st.elim
      · have : i = xs.length := by omega
        subst this
        rw [List.getElem?_eq_none (Nat.le_refl _)] at e0
        unfold lcE
        rw [e0]
        dsimp only
        rw [w_al]
        exact fin _ h hI
  exact main 1000000 0 [] h1 (by omega) (by omega) i0
end EV
namespace EV
open PySem PySem.Spec PyProof.Rows L2
section
variable {h h' h1 h2 : Hpe} {i j n c c1 c2 : Nat} {w u : W} {ws us xs ys : List W} {o : Ob} {x : Int} {Q : W → Hpe → Prop} {E : Exc → Hpe → Prop}
theorem nc_int {i : Int} : noClo (.int i) = true := rfl
theorem nc_bl {b : Bool} : noClo (.bl b) = true := rfl
theorem nc_tup : noClo (.tup ws) = true := rfl
theorem nc_ref : noClo (.ref n) = true := rfl
theorem nc_non : noClo .non = true := rfl
theorem nc_str {s : Str} : noClo (.str s) = true := rfl
theorem tr_bl {b : Bool} : truW (.bl b) h = some b := rfl
theorem tr_int {i : Int} : truW (.int i) h = some (i != 0) := rfl
theorem tr_tup : truW (.tup ws) h = some (!ws.isEmpty) := rfl
theorem tr_non : truW .non h = some false := rfl
theorem tr_lst (g : h.get n = some (.lst ws)) : truW (.ref n) h = some (!ws.isEmpty) := by
  simp only [truW, g]
theorem iw_tup {t : Kd} : instW t (.tup ws) h = some (match t with | .tuple => true | _ => false) := rfl
theorem iw_int {t : Kd} {i : Int} : instW t (.int i) h = some (match t with | .int => true | _ => false) := rfl
theorem iw_bl {t : Kd} {b : Bool} : instW t (.bl b) h = some (match t with | .int => true | .bool => true | _ => false) := rfl
theorem iw_str {t : Kd} {s : Str} : instW t (.str s) h = some (match t with | .str => true | _ => false) := rfl
theorem iw_non {t : Kd} : instW t .non h = some false := rfl
theorem iw_lst {t : Kd} (g : h.get n = some (.lst ws)) : instW t (.ref n) h = some (match t with | .list => true | _ => false) := by
  have e := rdL_of g
  cases t <;> simp only [instW, e]
theorem line_of (l : n ≤ 100000) : line n = true := Nat.ble_eq_true_of_le l
theorem get_set (p : n < 2199023255551) : (h.set n o).get i = if i = n then some o else h.get i := by
  by_cases c : i = n
  · rw [if_pos c, c]; exact set_get o (by omega)
  · rw [if_neg c]; exact set_old o c
theorem unl_nil (a : h.lk = []) (b : h'.lk = []) : unl h h' = h' := by
  unfold unl
  rw [a, b]
  show { unlk h [] h' with lk := [] } = h'
  unfold unlk
  rw [← b]
structure Gr (M : Nat → Prop) (c : Nat) (h h' : Hpe) : Prop where
  le : h.nx ≤ h'.nx
  lt : h'.nx ≤ h.nx + c
  old : ∀ i, i < h.nx → ¬ M i → h'.get i = h.get i
  lk : h'.lk = h.lk
theorem Gr.refl {M : Nat → Prop} : Gr M c h h := ⟨Nat.le_refl _, Nat.le_add_right _ _, fun _ _ _ => rfl, rfl⟩
theorem Gr.trans {M : Nat → Prop} (a : Gr M c1 h h1) (b : Gr M c2 h1 h2) : Gr M (c1 + c2) h h2 :=
  ⟨Nat.le_trans a.le b.le, by have := a.lt; have := b.lt; omega, fun i hi m => (b.old i (Nat.lt_of_lt_of_le hi a.le) m).trans (a.old i hi m), b.lk.trans a.lk⟩
theorem Gr.mono {M M' : Nat → Prop} (a : Gr M c1 h h1) (l : c1 ≤ c2) (m : ∀ i, i < h.nx → M i → M' i) : Gr M' c2 h h1 :=
  ⟨a.le, Nat.le_trans a.lt (by omega), fun i hi k => a.old i hi fun q => k (m i hi q), a.lk⟩
theorem Gr.new {M : Nat → Prop} (o : Ob) : Gr M 1 h (h.new o) :=
  ⟨Nat.le_succ _, Nat.le_refl _, fun i hi _ => new_old o (by omega), rfl⟩
theorem Gr.set {M : Nat → Prop} (o : Ob) (m : h.nx ≤ n ∨ M n) : Gr M 0 h (h.set n o) :=
  ⟨Nat.le_refl _, Nat.le_refl _, fun i hi k => set_old o (by
    intro e
    subst e
    rcases m with m | m
    · omega
    · exact k m), rfl⟩
theorem frm_wp {g : List W → Hpe → Res W} {Q : W → Prop} (a : noRefs ws = true) (e : (g ws Hpe.nil).Wp (fun w _ => noRef w = true ∧ Q w) (fun _ _ => False)) : ∃ w, noRef w = true ∧ Q w ∧ ∀ h, frm g ws h = .ok w h := by
  cases q : g ws Hpe.nil with
  | ok w h0 =>
    rw [q] at e
    refine ⟨w, e.1, e.2, fun h => ?_⟩
    unfold frm
    rw [a, q]
    simp only [cond_true, e.1]
  | ex x h0 => rw [q] at e; exact e.elim
  | no => rw [q] at e; exact e.elim
theorem frm_is {g : List W → Hpe → Res W} {u : W} (a : noRefs ws = true) (b : noRef u = true) (e : (g ws Hpe.nil).Wp (fun w _ => w = u) (fun _ _ => False)) (h : Hpe) : frm g ws h = .ok u h := by
  obtain ⟨w, _, rfl, z⟩ := frm_wp (Q := fun w => w = u) a (e.mono (fun w _ q => ⟨by rw [q]; exact b, q⟩) (fun _ _ q => q))
  exact z h
theorem wp_eq {α : Type} {r : Res α} {a : α} (e : r = .ok a h') {Q : α → Hpe → Prop} {E : Exc → Hpe → Prop} (q : Q a h') : r.Wp Q E := by rw [e]; exact q
theorem srcT_at (ws : List W) (i : Nat) (h : Hpe) : srcT ws h i = some ws[i]? := by
  unfold srcT
  rw [nthR_eq]
  cases ws[i]? <;> rfl
theorem srcL_at (g : rdL h n = some ws) (i : Nat) : srcL n h i = some ws[i]? := by
  unfold srcL
  rw [g]
  dsimp only
  rw [nthR_eq]
  cases ws[i]? <;> rfl
def rngW (lo : Int) (n : Nat) : List W := (List.range n).map fun (i : Nat) => W.int (lo + (i : Int))
theorem rngW_len (lo : Int) (n : Nat) : (rngW lo n).length = n := by unfold rngW; rw [List.length_map, List.length_range]
theorem rngW_at (lo : Int) (n i : Nat) : (rngW lo n)[i]? = if i < n then some (.int (lo + (i : Int))) else none := by
  unfold rngW
  rw [List.getElem?_map]
  by_cases c : i < n
  · rw [if_pos c, List.getElem?_range c]; rfl
  · rw [if_neg c, List.getElem?_eq_none (by rw [List.length_range]; omega)]; rfl
theorem srcR_at (lo : Int) (n i : Nat) (h : Hpe) : srcR lo n h i = some (rngW lo n)[i]? := by
  unfold srcR
  rw [rngW_at]
  by_cases c : i < n
  · rw [if_pos c, show Nat.blt i n = true from Nat.ble_eq_true_of_le c]; rfl
  · rw [if_neg c]
    rw [show Nat.blt i n = false by cases q : Nat.blt i n with
      | false => rfl
      | true => exact absurd (Nat.le_of_ble_eq_true q) c]
    rfl
theorem add_ii {i j : Int} : gAdd (.int i) (.int j) h = .ok (.int (i + j)) h := rfl
theorem add_tt : (gAdd (.tup xs) (.tup ys) h).Wp Q E = (xs.length + ys.length ≤ 100000 ∧ Q (.tup (xs ++ ys)) h) := by
  show (bif line (xs.length + ys.length) then Res.ok (W.tup (xs ++ ys)) h else .no).Wp Q E = _
  rw [wp_cond, wp_ok, wp_no]
  unfold line
  by_cases c : xs.length + ys.length ≤ 100000
  · rw [Nat.ble_eq_true_of_le c]; simp [c]
  · rw [show Nat.ble (xs.length + ys.length) 100000 = false by cases q : Nat.ble (xs.length + ys.length) 100000 with
      | false => rfl
      | true => exact absurd (Nat.le_of_ble_eq_true q) c]
    simp [c]
theorem len_t : bLen3 [.tup ws] h = .ok (.int (ws.length : Nat)) h := rfl
theorem len_l (g : h.get n = some (.lst ws)) : bLen3 [.ref n] h = .ok (.int (ws.length : Nat)) h := len_lst g
theorem ix_t {i : Int} {w : W} (e : atI ws i = some w) : gIx2 (.tup ws) (.int i) h = .ok w h := by
  unfold gIx2 gIx
  dsimp only
  rw [e]
theorem atI_n {w : W} {i : Nat} (e : ws[i]? = some w) : atI ws (i : Int) = some w := by
  have hi := (List.getElem?_eq_some_iff.mp e).1
  rw [atI_pos hi]
  exact congrArg some (List.getElem?_eq_some_iff.mp e).2
end
end EV
namespace EV
open PySem PySem.Spec PyProof.Rows L2
section
local macro_rules | `(tactic| w_up) => `(tactic| simp only [w_seq, w_nil, w_rt, w_rtN, w_ex, w_as, w_if, w_par, w_rs, w_v, w_k, w_aN, w_aC, w_e2, w_tup, w_lst, w_cl, w_cl0, w_bl, w_asB, w_asT, w_tNt, w_tAn, w_tOr, w_tYs, w_eIf, w_eAn, w_eNtT, w_eOrT, w_oS, w_oN, w_eIs, w_eIs2, w_mt, w_mt0, wp_ok, wp_exc, List.getElem?_cons_zero, List.getElem?_cons_succ, List.set_cons_zero, List.set_cons_succ, Option.some.injEq, exists_eq_left', nc_int, nc_bl, nc_tup, nc_ref, nc_non, nc_str, true_and, and_true, List.length_cons, List.length_nil, List.map_cons, List.map_nil, W.bl.injEq, W.int.injEq, Bool.not_true, Bool.not_false, Bool.false_eq_true, if_true, if_false, iw_tup, iw_int, iw_bl, iw_str, iw_non, tr_bl, tr_int, tr_tup, tr_non])
mutual
def dat : W → Bool
  | .non => true
  | .bl _ => true
  | .int _ => true
  | .str _ => true
  | .tup ws => dats ws
  | _ => false
def dats : List W → Bool
  | [] => true
  | w :: ws => dat w && dats ws
end
mutual
def tn : W → Nat
  | .tup ws => tns ws + 1
  | _ => 1
def tns : List W → Nat
  | [] => 0
  | w :: ws => tn w + tns ws
end
theorem tns_app : ∀ a b : List W, tns (a ++ b) = tns a + tns b
  | [], b => (Nat.zero_add _).symm
  | w :: a, b => by
    show tn w + tns (a ++ b) = tn w + tns a + tns b
    rw [tns_app a b, Nat.add_assoc]
theorem dats_at : ∀ {ws : List W} {i : Nat} {w : W}, dats ws = true → ws[i]? = some w → dat w = true
  | [], _, _, _, e => by simp at e
  | w :: ws, 0, _, d, e => by
    simp at e
    subst e
    exact ((Bool.and_eq_true _ _).mp d).1
  | w :: ws, i + 1, _, d, e => dats_at (ws := ws) (i := i) ((Bool.and_eq_true _ _).mp d).2 (by simpa using e)
theorem tn_pos : ∀ w : W, 1 ≤ tn w
  | .tup ws => Nat.le_add_left 1 (tns ws)
  | .non => Nat.le_refl _
  | .bl _ => Nat.le_refl _
  | .int _ => Nat.le_refl _
  | .str _ => Nat.le_refl _
  | .ref _ => Nat.le_refl _
  | .df _ => Nat.le_refl _
  | .clo _ _ => Nat.le_refl _
theorem tns_len : ∀ a : List W, a.length ≤ tns a
  | [] => Nat.le_refl _
  | w :: a => by
    have := tns_len a
    have := tn_pos w
    show a.length + 1 ≤ tn w + tns a
    omega
def uHold : FS :=
    (sSeq (sIf (tNt (asT (eIs Kd.tuple (eV 0)))) (sSeq (sRt (eIs Kd.list (eV 0)))
      sNil) sNil)
      (sSeq (sAs (eLst (aC (eV 0) aN)) (gN 1))
      (sSeq (sWh (asT (eV 1)) (sSeq (sAs (eMt0 chkL mPop (eV 1)) (gN 2))
      (sSeq (sUn (sFor (iV3 (eV 2)) (gN 3) (sSeq (sIf (asT (eIs Kd.tuple (eV 3))) (sSeq (sEx (eMt chkL mApp (eV 1) (aC (eV 3) aN)))
      sNil) (sSeq (sIf (asT (eIs Kd.list (eV 3))) (sSeq (sRt (eK (.bl true)))
      sNil) sNil)
      sNil))
      sNil)))
      sNil)))
      (sSeq (sRt (eK (.bl false)))
      sNil))))
theorem w_un {f : FS} {ρ : Rho} {h : Hpe} {D : Po} : (sUn f ρ h).Wp D = (f ρ h).Wp ⟨fun ρ h' => D.nx ρ (unl h h'), fun w h' => D.rt w (unl h h'), D.bk, D.ct, D.ex⟩ := by
  unfold sUn
  cases f ρ h <;> rfl
theorem w_gN {i : Nat} {w : W} {ρ : Rho} {h : Hpe} {D : Po} : (gN i w ρ h).Wp D = D.nx (ρ.set i (some w)) h := by
  unfold gN
  rw [setR_eq]
  rfl
theorem w_app {n : Nat} {h : Hpe} {ws : List W} {y : W} {Q : W → Hpe → Prop} {E : Exc → Hpe → Prop} (g : h.get n = some (.lst ws)) (l : ws.length ≤ 100000) (q : Q .non (h.set n (.lst (ws ++ [y])))) : (mApp (.ref n) [y] h).Wp Q E := by
  unfold mApp
  dsimp only
  rw [g]
  dsimp only
  rw [line_of l]
  exact q
theorem w_pop {n : Nat} {h : Hpe} {ws : List W} {y : W} {Q : W → Hpe → Prop} {E : Exc → Hpe → Prop} (g : h.get n = some (.lst (ws ++ [y]))) (q : Q y (h.set n (.lst ws))) : (mPop (.ref n) [] h).Wp Q E := by
  unfold mPop
  dsimp only
  rw [g]
  dsimp only
  rw [show (ws ++ [y]).length - 1 = ws.length by simp, List.getElem?_append_right (Nat.le_refl _), Nat.sub_self]
  show Q y (h.set n (.lst (ws ++ [y]).dropLast))
  rw [List.dropLast_concat]
  exact q
theorem chk_lst {n : Nat} {h : Hpe} {ws : List W} (g : h.get n = some (.lst ws)) : chkL (.ref n) h = true := by
  simp only [chkL, g]
theorem w_iT {f : FE} {ρ : Rho} {h : Hpe} {Q : Src → Hpe → Prop} {E : Exc → Hpe → Prop} (e : (f ρ h).Wp (fun w h => ∃ ws, w = .tup ws ∧ Q (srcT ws) h) E) : (iV3 f ρ h).Wp Q E := by
  unfold iV3
  rw [wp_bind]
  refine e.mono (fun w h ⟨ws, e, q⟩ => ?_) (fun _ _ q => q)
  subst e
  exact q
end
end EV
namespace EV
open PySem PySem.Spec PyProof.Rows L2
theorem qe_bl {b c : Bool} {h : Hpe} {n : Bool} : gEq n (.bl b) (.bl c) h = .ok (.bl (n != (b == c))) h := by
  cases b <;> cases c <;> cases n <;> rfl
theorem qe_int {n : Bool} {i j : Int} {h : Hpe} : gEq n (.int i) (.int j) h = .ok (.bl (n != (i == j))) h := rfl
theorem qe_non {n : Bool} {h : Hpe} : gEq n .non .non h = .ok (.bl (n != true)) h := rfl
theorem isN_t {n : Bool} {h : Hpe} : gIsN n .non .non h = .ok (.bl (n != true)) h := by cases n <;> rfl
theorem isN_f {n : Bool} {w : W} {h : Hpe} (e : match w with | .non => False | _ => True) : gIsN n w .non h = .ok (.bl (n != false)) h := by
  cases w <;> first | (cases n <;> rfl) | exact e.elim
section
local macro_rules | `(tactic| w_up) => `(tactic| simp only [w_seq, w_nil, w_rt, w_rtN, w_ex, w_as, w_if, w_par, w_rs, w_v, w_k, w_aN, w_aC, w_e2, w_tup, w_lst, w_cl, w_cl0, w_bl, w_asB, w_asT, w_tNt, w_tAn, w_tOr, w_tYs, w_eIf, w_eAn, w_eNtT, w_eOrT, w_oS, w_oN, w_eIs, w_eIs2, w_mt, w_mt0, wp_ok, wp_exc, List.getElem?_cons_zero, List.getElem?_cons_succ, List.set_cons_zero, List.set_cons_succ, Option.some.injEq, exists_eq_left', nc_int, nc_bl, nc_tup, nc_ref, nc_non, nc_str, true_and, and_true, List.length_cons, List.length_nil, List.map_cons, List.map_nil, W.bl.injEq, W.int.injEq, Bool.not_true, Bool.not_false, Bool.false_eq_true, if_true, if_false, iw_tup, iw_int, iw_bl, iw_str, iw_non, tr_bl, tr_int, tr_tup, tr_non, Bool.or_true, Bool.or_false, Bool.true_or, wipeR, qe_bl, qe_int, qe_non, isN_f, isN_t, beq_self_eq_true, bne_self_eq_false, Bool.false_bne, Bool.true_bne])
inductive Sm (h : Hpe) (B : Nat → Prop) : Nat → Nat → W → W → Prop
  | non {d n} : Sm h B (d + 1) n .non .non
  | bl {d n} (b : Bool) : Sm h B (d + 1) n (.bl b) (.bl b)
  | int {d n} (i : Int) : Sm h B (d + 1) n (.int i) (.int i)
  | str {d n} (s : Str) (l : ∀ h, gEq false (.str s) (.str s) h = .ok (.bl true) h) : Sm h B (d + 1) n (.str s) (.str s)
  | tup {d n} {ws us : List W} (e : ws.length = us.length) (l : ws.length ≤ n) (s : ∀ (i : Nat) (w u : W), ws[i]? = some w → us[i]? = some u → Sm h B d n w u) : Sm h B (d + 1) n (.tup ws) (.tup us)
  | lst {d n i j} {ws us : List W} (g : h.get i = some (.lst ws)) (g' : h.get j = some (.lst us)) (hi : i < h.nx) (hj : j < h.nx) (ni : ¬ B i) (nj : ¬ B j) (e : ws.length = us.length) (l : ws.length ≤ n) (s : ∀ (i : Nat) (w u : W), ws[i]? = some w → us[i]? = some u → Sm h B d n w u) : Sm h B (d + 1) n (.ref i) (.ref j)
theorem Sm.mono {h h' : Hpe} {B : Nat → Prop} (o : ∀ i, i < h.nx → ¬ B i → h'.get i = h.get i) (le : h.nx ≤ h'.nx) : ∀ {d n : Nat} {w u : W}, Sm h B d n w u → ∀ {d' n' : Nat}, d ≤ d' → n ≤ n' → Sm h' B d' n' w u := by
  intro d
  induction d with
  | zero => intro n w u s; cases s
  | succ d ih =>
    intro n w u s d' n' hd hn
    obtain ⟨e, rfl⟩ : ∃ e, d' = e + 1 := ⟨d' - 1, by omega⟩
    cases s with
    | non => exact .non
    | bl b => exact .bl b
    | int i => exact .int i
    | str s l => exact .str s l
    | tup e l s => exact .tup e (Nat.le_trans l hn) fun i w u a b => ih (s i w u a b) (by omega) hn
    | lst g g' hi hj ni nj e l s => exact .lst ((o _ hi ni).trans g) ((o _ hj nj).trans g') (Nat.lt_of_lt_of_le hi le) (Nat.lt_of_lt_of_le hj le) ni nj e (Nat.le_trans l hn) fun i w u a b => ih (s i w u a b) (by omega) hn
theorem Sm.nc {h : Hpe} {B : Nat → Prop} {d n : Nat} {w u : W} (s : Sm h B d n w u) : noClo w = true ∧ noClo u = true := by cases s <;> exact ⟨rfl, rfl⟩
def uSame (g : List W → Hpe → Res W) : FS :=
    (sSeq (sIf (asT (eIs2 Kd.list Kd.tuple (eV 1))) (sSeq (sIf (tOr' (asB (e2 (gEq true) (eIs Kd.list (eV 0)) (eIs Kd.list (eV 1)))) (asB (e2 (gEq true) (eIs Kd.tuple (eV 0)) (eIs Kd.tuple (eV 1))))) (sSeq (sRt (eK (.bl false)))
      sNil) sNil)
      (sSeq (sRt (eAn (e2 (gEq false) (eBl bLen3 (aC (eV 0) aN)) (eBl bLen3 (aC (eV 1) aN))) (eBl (bAllAny fun bs => bs.all id) (aC (eComp (.lst []) (iOr (ltR (aC (eV 0) (aC (eV 1) aN))) (iZMf (aC (eV 0) (aC (eV 1) aN))) (iZ (aC (eV 0) (aC (eV 1) aN)))) (gTL 2 (gsC (gN 2) (gsC (gN 3) gsN))) tYs (moreL (eCl 2 g (aC (eV 2) (aC (eV 3) aN)))) [2, 3]) aN))))
      sNil)) sNil)
      (sSeq (sIf (tOr' (asB (e2 (gIsN false) (eV 1) (eK .non))) (asT (eIs2 Kd.bool Kd.str (eV 1)))) (sSeq (sRt (eAn (e2 (gEq false) (eV 0) (eV 1)) (eAn (e2 (gEq false) (eIs Kd.bool (eV 0)) (eIs Kd.bool (eV 1))) (e2 (gEq false) (e2 (gIsN false) (eV 0) (eK .non)) (e2 (gIsN false) (eV 1) (eK .non))))))
      sNil) sNil)
      (sSeq (sRt (eAn (eIs Kd.int (eV 0)) (eAn (eNtT (eIs Kd.bool (eV 0))) (e2 (gEq false) (eV 0) (eV 1)))))
      sNil)))
theorem w_compL {fi : FI} {g : FG} {t : FT} {fe : FE} {vs : List Nat} {ρ : Rho} {h : Hpe} {Q : W → Hpe → Prop} {E : Exc → Hpe → Prop} (xs : List W) (I : Nat → Nat → List W → Hpe → Prop) (hl : xs.length < 100000)
    (h0 : (fi ρ h).Wp (fun src h1 => (h1.nx < 1099511627776 ∧ I h1.nx 0 [] (h1.new (.lst []))) ∧ ∀ n i ys h, I n i ys h → src h i = some xs[i]?) E)
    (step : ∀ n i w ys h, xs[i]? = some w → I n i ys h → ys.length ≤ i → (g w (wipeR ρ vs) h).Wp ⟨fun ρ' h => (t ρ' h).Wp (fun b h => if b = true then (fe ρ' h).Wp (fun y h => h.get n = some (.lst ys) ∧ I n (i + 1) (ys ++ [y]) (h.set n (.lst (ys ++ [y])))) E else I n (i + 1) ys h) E, fun _ _ => False, fun _ _ => False, fun _ _ => False, fun _ _ _ => False⟩)
    (fin : ∀ n ys h, I n xs.length ys h → Q (.ref n) h) : (eComp (.lst []) fi g t (moreL fe) vs ρ h).Wp Q E := by
  unfold eComp
  rw [wp_bind]
  refine h0.mono (fun src h1 ⟨⟨nx, i0⟩, sr⟩ => ?_) (fun _ _ q => q)
  rw [wp_bind, w_al]
  refine ⟨nx, ?_⟩
  dsimp only
  rw [wp_bind]
  generalize h1.nx = n at i0 ⊢
  generalize h1.new (.lst []) = h2 at i0 ⊢
  have main : ∀ (m i : Nat) (ys : List W) (h : Hpe), xs.length - i < m → i ≤ xs.length → ys.length ≤ i → I n i ys h → (loopC g t (moreL fe n) src (wipeR ρ vs) m i h).Wp (fun _ h => Q (.ref n) h) E := by
    intro m
    induction m with
    | zero => intro i ys h q; omega
    | succ m ih =>
      intro i ys h hm hi hy hI
      have e0 := sr n i _ h hI
      by_cases c : i < xs.length
      · have ew : xs[i]? = some xs[i] := List.getElem?_eq_getElem c
        have st := step n i _ _ h ew hI hy
        rw [ew] at e0
        unfold loopC
        rw [e0]
        dsimp only
        cases e : g xs[i] (wipeR ρ vs) h with
        | nx ρ' h' =>
          rw [e] at st
          have st2 : (t ρ' h').Wp _ _ := st
          dsimp only
          rw [wp_bind]
          refine st2.mono (fun b h2 q => ?_) (fun _ _ q => q)
          cases b with
          | false =>
            simp only [Bool.false_eq_true, if_false] at q
            exact ih (i + 1) ys h2 (by omega) (by omega) (by omega) q
          | true =>
            simp only [if_true] at q
            simp only [cond_true]
            rw [wp_bind]
            unfold moreL
            rw [wp_bind]
            refine q.mono (fun y h3 ⟨g3, q3⟩ => ?_) (fun _ _ q => q)
            unfold toU
            rw [wp_bind]
            refine w_app g3 (by omega) ?_
            exact ih (i + 1) _ _ (by omega) (by omega) (by rw [List.length_append]; show ys.length + 1 ≤ _; omega) q3
        | ct ρ' h' => rw [e] at st; exact st.elim
        | bk ρ' h' => rw [e] at st; exact st.elim
        | rt w h' => rw [e] at st; exact st.elim
        | ex x ρ' h' => rw [e] at st; exact st.elim
        | no => rw [e] at st; exact st.elim
      · have : i = xs.length := by omega
        subst this
        rw [List.getElem?_eq_none (Nat.le_refl _)] at e0
        unfold loopC
        rw [e0]
        exact fin n ys h hI
  refine (main 1000000 0 [] h2 (by omega) (by omega) (Nat.le_refl _) i0).mono (fun _ h q => q) (fun _ _ q => q)
theorem w_gT2 {i j : Nat} {a b : W} {ρ : Rho} {h : Hpe} {D : Po} : (gTL 2 (gsC (gN i) (gsC (gN j) gsN)) (.tup [a, b]) ρ h).Wp D = D.nx ((ρ.set i (some a)).set j (some b)) h := by
  show (((gN i a ρ h).seq fun ρ' h' => gsC (gN j) gsN [b] ρ' h')).Wp D = _
  unfold gN
  rw [setR_eq]
  show (((gN j b (ρ.set i (some a)) h).seq fun ρ' h' => gsN [] ρ' h')).Wp D = _
  unfold gN
  rw [setR_eq]
  rfl
theorem w_iOr {c : Rho → Hpe → Bool} {f1 f2 : FI} {ρ : Rho} {h : Hpe} {Q : Src → Hpe → Prop} {E : Exc → Hpe → Prop} : (iOr c f1 f2 ρ h).Wp Q E = if c ρ h = true then (f1 ρ h).Wp Q E else (f2 ρ h).Wp Q E := by
  unfold iOr
  rw [wp_cond]
def zipW (ws us : List W) : List W := (ws.zip us).map fun p => .tup [p.1, p.2]
theorem zipW_at (ws us : List W) (i : Nat) : (zipW ws us)[i]? = match ws[i]?, us[i]? with | some w, some u => some (.tup [w, u]) | _, _ => none := by
  unfold zipW
  rw [List.getElem?_map, List.zip, List.getElem?_zipWith]
  cases ws[i]? <;> cases us[i]? <;> rfl
theorem zipW_len {ws us : List W} (e : ws.length = us.length) : (zipW ws us).length = ws.length := by
  unfold zipW
  rw [List.length_map, List.length_zip, ← e, Nat.min_self]
theorem srcZ_at {a b : W} {ws us : List W} {h : Hpe} (ea : rdS a h = some ws) (eb : rdS b h = some us) (i : Nat) : srcZ a b h i = some (zipW ws us)[i]? := by
  unfold srcZ
  rw [ea, eb, zipW_at]
  dsimp only
  cases ws[i]? <;> cases us[i]? <;> rfl
theorem bools_rep (b : Bool) : ∀ n : Nat, bools (List.replicate n (.bl b)) = some (List.replicate n b)
  | 0 => rfl
  | n + 1 => by
    rw [List.replicate_succ, List.replicate_succ]
    show (match bools (List.replicate n (.bl b)) with | some bs => some (b :: bs) | none => none) = _
    rw [bools_rep b n]
theorem w_all {f : List Bool → Bool} {n : Nat} {bs : List Bool} {ws : List W} {h : Hpe} {Q : W → Hpe → Prop} {E : Exc → Hpe → Prop} (g : h.get n = some (.lst ws)) (e : bools ws = some bs) (q : Q (.bl (f bs)) h) : (bAllAny f [.ref n] h).Wp Q E := by
  unfold bAllAny
  dsimp only
  rw [rdL_of g]
  dsimp only
  rw [e]
  exact q
abbrev noM : Nat → Prop := fun _ => False
section
variable {g : List W → Hpe → Res W} {d n : Nat} {B : Nat → Prop}
theorem noRefs_at : ∀ {ws : List W} {i : Nat} {w : W}, noRefs ws = true → ws[i]? = some w → noRef w = true
  | [], _, _, _, e => by simp at e
  | v :: ws, 0, w, d, e => by
    simp at e
    subst e
    rw [noRefs_c] at d
    cases q : noRef v <;> rw [q] at d <;> first | rfl | cases d
  | v :: ws, i + 1, w, d, e => by
    rw [noRefs_c] at d
    refine noRefs_at (ws := ws) (i := i) ?_ (by simpa using e)
    cases q : noRef v <;> rw [q] at d <;> first | exact d | cases d
theorem Sm.nil {h : Hpe} {B : Nat → Prop} : ∀ {d n : Nat} {w u : W}, noRef w = true → noRef u = true → Sm h B d n w u → Sm Hpe.nil B d n w u := by
  intro d
  induction d with
  | zero => intro n w u _ _ s; cases s
  | succ d ih =>
    intro n w u na nb s
    cases s with
    | non => exact .non
    | bl b => exact .bl b
    | int i => exact .int i
    | str s l => exact .str s l
    | tup e l s => exact .tup e l fun i w u p q => ih (noRefs_at na p) (noRefs_at nb q) (s i w u p q)
    | lst g g' hi hj _ _ e l s => cases na
end
end
end EV
namespace EV
open PySem PySem.Spec PyProof.Rows L2
section
variable {h : Hpe} {Q : W → Hpe → Prop} {E : Exc → Hpe → Prop} {i j : Int} {ws us : List W} {n : Nat}
theorem o_gI {c : Int → Int → Bool} {g : Int → Int → Int} : (gI c g (.int i) (.int j) h).Wp Q E = (c i j = true ∧ Q (.int (g i j)) h) := by
  show (bif c i j then Res.ok (W.int (g i j)) h else .no).Wp Q E = _
  rw [wp_cond, wp_ok, wp_no]
  cases c i j <;> simp
theorem o_gI0 {g : Int → Int → Int} : gI0 g (.int i) (.int j) h = .ok (.int (g i j)) h := rfl
theorem o_gB0 {g : Int → Int → Bool} : gB0 g (.int i) (.int j) h = .ok (.bl (g i j)) h := rfl
theorem o_mulI : (gMul (.int i) (.int j) h).Wp Q E = (cMul i j = true ∧ Q (.int (i * j)) h) := by
  show (bif cMul i j then Res.ok (W.int (i * j)) h else .no).Wp Q E = _
  rw [wp_cond, wp_ok, wp_no]
  cases cMul i j <;> simp
theorem o_mulT : (gMul (.tup ws) (.int j) h).Wp Q E = (cM j ws.length = true ∧ Q (.tup (List.replicate j.toNat ws).flatten) h) := by
  show (bif cM j ws.length then Res.ok (W.tup (List.replicate j.toNat ws).flatten) h else .no).Wp Q E = _
  rw [wp_cond, wp_ok, wp_no]
  cases cM j ws.length <;> simp
theorem cR_of (a : -1000000 ≤ i) (b : i ≤ 1000000) : cR i = true := by
  unfold cR
  rw [decide_eq_true a, decide_eq_true b]
  rfl
def slW : W → Option Int → Option Int → Hpe → Res W
  | .tup ws, lo, hi, h => .ok (.tup (cutW ws lo hi)) h
  | .ref n, lo, hi, h => match rdL h n with
    | some ws => h.al (.lst (cutW ws lo hi))
    | none => .no
  | _, _, _, _ => .no
theorem w_sl {f : FE} {fl fh : FO} {ρ : Rho} : (eSl f fl fh ρ h).Wp Q E = (f ρ h).Wp (fun w h1 => (fl ρ h1).Wp (fun lo h2 => (fh ρ h2).Wp (fun hi h3 => (slW w lo hi h3).Wp Q E) E) E) E := by
  unfold eSl
  rw [wp_bind]
  simp only [wp_bind]
  congr 1
  funext w h1
  congr 1
  funext lo h2
  congr 1
  funext hi h3
  cases w <;> rfl
theorem w_iR1 {fs : FA} {ρ : Rho} {Q : Src → Hpe → Prop} : (iR1 fs ρ h).Wp Q E = (fs ρ h).Wp (fun ws h => ∃ j, ws = [.int j] ∧ cR j = true ∧ Q (srcR 0 j.toNat) h) E := by
  unfold iR1
  rw [wp_bind]
  congr 1
  funext ws h
  match ws with
  | [.int j] =>
    dsimp only
    rw [wp_cond]
    apply propext
    constructor
    · intro q
      cases c : cR j with
      | true => rw [c] at q; exact ⟨j, rfl, c, q⟩
      | false => rw [c] at q; exact q.elim
    · rintro ⟨j', e, c, q⟩
      cases e
      rw [c]
      exact q
  | [] => exact propext ⟨fun q => q.elim, fun ⟨_, e, _⟩ => by cases e⟩
  | [.non] => exact propext ⟨fun q => q.elim, fun ⟨_, e, _⟩ => by cases e⟩
  | [.bl _] => exact propext ⟨fun q => q.elim, fun ⟨_, e, _⟩ => by cases e⟩
  | [.str _] => exact propext ⟨fun q => q.elim, fun ⟨_, e, _⟩ => by cases e⟩
  | [.tup _] => exact propext ⟨fun q => q.elim, fun ⟨_, e, _⟩ => by cases e⟩
  | [.ref _] => exact propext ⟨fun q => q.elim, fun ⟨_, e, _⟩ => by cases e⟩
  | [.df _] => exact propext ⟨fun q => q.elim, fun ⟨_, e, _⟩ => by cases e⟩
  | [.clo _ _] => exact propext ⟨fun q => q.elim, fun ⟨_, e, _⟩ => by cases e⟩
  | a :: b :: r => exact propext ⟨fun q => by cases a <;> exact q.elim, fun ⟨_, e, _⟩ => by cases e⟩
end
def wd (l : List Int) : W := .tup (l.map .int)
section
variable {l m : List Int} {h : Hpe} {n : Nat} {Q : W → Hpe → Prop} {E : Exc → Hpe → Prop}
theorem map_toD : ∀ l : List Int, mapO (toD 69 h) (l.map .int) = some (l.map PyData.int)
  | [] => rfl
  | x :: l => by
    have e : toD 69 h (.int x) = some (.int x) := rfl
    rw [List.map_cons, mapO, e, map_toD l]
    rfl
theorem lay_int : ∀ l : List Int, PyData.canLayAll0 (l.map PyData.int) = true
  | [] => by simp [PyData.canLayAll0]
  | x :: l => by simp [PyData.canLayAll0, PyData.canLay0, lay_int l]
theorem dep_int : ∀ l : List Int, PyData.depthAll (l.map PyData.int) = 0
  | [] => by simp [PyData.depthAll]
  | x :: l => by simp [PyData.depthAll, PyData.depth, dep_int l]
theorem sh_int (l : List Int) : SeqAt.shaped (.tuple (l.map PyData.int)) = true := by
  unfold SeqAt.shaped
  simp [PyData.canLay0, PyData.depth, lay_int l, dep_int l]
theorem eqv_int : ∀ l m : List Int, PyData.eqvAll (l.map PyData.int) (m.map PyData.int) = (l == m)
  | [], [] => by simp [PyData.eqvAll]
  | [], _ :: _ => by simp [PyData.eqvAll]
  | _ :: _, [] => by simp [PyData.eqvAll]
  | x :: l, y :: m => by
    simp only [List.map_cons, PyData.eqvAll, PyData.eqv, eqv_int l m]
    rfl
theorem qe_wd {b : Bool} : gEq b (wd l) (wd m) h = .ok (.bl (b != (l == m))) h := by
  unfold gEq wd
  show (match (match mapO (toD 69 h) (l.map .int) with | none => none | some ds => some (PyData.tuple ds)), (match mapO (toD 69 h) (m.map .int) with | none => none | some ds => some (PyData.tuple ds)) with
    | some d, some e => bif SeqAt.shaped d && SeqAt.shaped e then Res.ok (W.bl (b != PyData.eqv d e)) h else .no
    | _, _ => .no) = _
  rw [map_toD, map_toD]
  dsimp only
  rw [sh_int, sh_int]
  show Res.ok (W.bl (b != PyData.eqv _ _)) h = _
  simp only [PyData.eqv, eqv_int]
theorem cut_map2 (l : List Int) (lo hi : Option Int) : cutW (l.map W.int) lo hi = (((l.drop (HT.sIx l.length 0 lo)).take (HT.sIx l.length l.length hi - HT.sIx l.length 0 lo))).map W.int := by
  unfold cutW
  rw [List.length_map, List.map_take, List.map_drop]
theorem cut_to (l : List Int) (k : Int) (h : 0 ≤ k) : cutW (l.map W.int) none (some k) = (l.take k.toNat).map W.int := by
  rw [cut_map2]
  congr 1
  obtain ⟨m, rfl⟩ : ∃ m : Nat, k = m := ⟨k.toNat, by omega⟩
  rw [HT.sIx_nat, HT.sIx_none, List.drop_zero, Nat.sub_zero, Int.toNat_natCast]
  rcases Nat.le_total m l.length with q | q
  · rw [Nat.min_eq_left q]
  · rw [Nat.min_eq_right q, List.take_of_length_le (Nat.le_refl _), List.take_of_length_le q]
theorem cut_from (l : List Int) (k : Int) (h : 0 ≤ k) : cutW (l.map W.int) (some k) none = (l.drop k.toNat).map W.int := by
  rw [cut_map2]
  congr 1
  obtain ⟨m, rfl⟩ : ∃ m : Nat, k = m := ⟨k.toNat, by omega⟩
  rw [HT.sIx_nat, HT.sIx_none, Int.toNat_natCast]
  rcases Nat.le_total m l.length with q | q
  · rw [Nat.min_eq_left q, List.take_of_length_le (by rw [List.length_drop]; omega)]
  · rw [Nat.min_eq_right q, Nat.sub_self, List.take_zero, List.drop_of_length_le q]
def rep (l : List Int) (k : Nat) : List Int := (List.replicate k l).flatten
theorem rep_map (l : List Int) (k : Nat) : (List.replicate k (l.map W.int)).flatten = (rep l k).map W.int := by
  unfold rep
  rw [List.map_flatten, List.map_replicate]
theorem ix_wd {i : Int} {x : Int} (h0 : 0 ≤ i) (e : l[i.toNat]? = some x) : gIx2 (wd l) (.int i) h = .ok (.int x) h := by
  refine ix_t ?_
  obtain ⟨m, rfl⟩ : ∃ m : Nat, i = m := ⟨i.toNat, by omega⟩
  refine atI_n ?_
  rw [List.getElem?_map, show m = ((m : Int)).toNat by omega, e]
  rfl
theorem len_wd : bLen3 [wd l] h = .ok (.int (l.length : Nat)) h := by
  show Res.ok (W.int ((l.map W.int).length : Nat)) h = _
  rw [List.length_map]
end
section
variable {l m : List Int} {h : Hpe} {n : Nat} {j : Int} {Q : W → Hpe → Prop} {E : Exc → Hpe → Prop}
theorem wd_fold : W.tup (l.map W.int) = wd l := rfl
theorem nc_wd : noClo (wd l) = true := rfl
theorem tr_wd : truW (wd l) h = some (!l.isEmpty) := by cases l <;> rfl
theorem sl_wd {lo hi : Option Int} : slW (wd l) lo hi h = .ok (.tup (cutW (l.map W.int) lo hi)) h := rfl
theorem cut_toN {k : Nat} : cutW (l.map W.int) none (some (k : Int)) = (l.take k).map W.int := by
  rw [cut_to l k (by omega), Int.toNat_natCast]
theorem cut_frN {k : Nat} : cutW (l.map W.int) (some (k : Int)) none = (l.drop k).map W.int := by
  rw [cut_from l k (by omega), Int.toNat_natCast]
theorem o_mulW : (gMul (wd l) (.int j) h).Wp Q E = (cM j l.length = true ∧ Q (wd (rep l j.toNat)) h) := by
  unfold wd
  rw [o_mulT, rep_map, List.length_map]
theorem o_addW : (gAdd (wd l) (wd m) h).Wp Q E = (l.length + m.length ≤ 100000 ∧ Q (wd (l ++ m)) h) := by
  unfold wd
  rw [add_tt, ← List.map_append, List.length_map, List.length_map]
end
section
variable {T : Nat → List W → Hpe → Res W} {kt : Nat} {h : Hpe} {n : Nat} {c low : Int} {Q : W → Hpe → Prop} {E : Exc → Hpe → Prop}
theorem w_take (et : T kt = runB 6 uTake) (u : UrnAt h n c) (hn : n < 100000000) (l0 : 0 < low) (l1 : low < 1073741824) (hc : c < 1000000000)
    (q : ∀ (t : Int) (h' : Hpe), 0 ≤ t → t < low → UrnAt h' n (c + 1) → Gr (· = n) 0 h h' → Q (.int t) h') : (T kt [.ref n, .int low] h).Wp Q E := by
  obtain ⟨x, y, c', g, c0, c1⟩ := u
  obtain ⟨t, x', c2, t0, t1, q0, q1, e⟩ := take_ok g (by omega) l0 l1 c0 (by omega)
  rw [et, e]
  refine q t _ t0 t1 ⟨x', y, c2, set_get _ (by omega), by omega, by omega⟩ ⟨Nat.le_refl _, Nat.le_refl _, fun i _ m => set_old _ m, rfl⟩
end
theorem run_eq {n : Nat} {f : FS} {ws : List W} {h : Hpe} {Q : W → Hpe → Prop} {E : Exc → Hpe → Prop} : (runB n f ws h).Wp Q E = (f (ws.map some ++ List.replicate (n - ws.length) none) h).Wp ⟨fun _ h => Q .non h, Q, fun _ _ => False, fun _ _ => False, fun x _ h => E x h⟩ := by
  unfold runB
  cases q : f (ws.map some ++ List.replicate (n - ws.length) none) h <;> rfl
end EV
namespace EV
open PySem PySem.Spec PyProof.Rows L2
section
variable {h : Hpe} {ρ : Rho} {E : Exc → Hpe → Prop} {Q : W → Hpe → Prop} {fi : FI} {g : FG} {t : FT} {fe : FE} {vs : List Nat}
end
end EV
namespace EV
open PySem PySem.Spec PyProof.Rows L2
inductive N where
  | leaf (w : W)
  | node (w : W) (ks : List N)
def N.val : N → W
  | .leaf w => w
  | .node w _ => w
mutual
def N.fro : N → W
  | .leaf w => w
  | .node _ ks => .tup (N.fros ks)
def N.fros : List N → List W
  | [] => []
  | k :: ks => k.fro :: N.fros ks
end
mutual
def N.sz : N → Nat
  | .leaf _ => 1
  | .node _ ks => N.szs ks + 1
def N.szs : List N → Nat
  | [] => 0
  | k :: ks => k.sz + N.szs ks
end
def lfW : W → Bool
  | .non => true
  | .bl _ => true
  | .int _ => true
  | .str _ => true
  | _ => false
mutual
def N.ok (h : Hpe) : N → Prop
  | .leaf w => lfW w = true
  | .node w ks => ((w = .tup (ks.map N.val)) ∨ ∃ i, w = .ref i ∧ h.get i = some (.lst (ks.map N.val)) ∧ i < h.nx) ∧ N.oks h ks
def N.oks (h : Hpe) : List N → Prop
  | [] => True
  | k :: ks => k.ok h ∧ N.oks h ks
end
def N.isN : N → Bool
  | .node _ _ => true
  | _ => false
def N.kids (ks : List N) : List N := ks.filter N.isN
mutual
def N.pre : N → List (W × Nat)
  | .leaf _ => []
  | .node w ks => (w, (N.kids ks).length) :: N.pres ks
def N.pres : List N → List (W × Nat)
  | [] => []
  | k :: ks => k.pre ++ N.pres ks
end
mutual
def N.hl : N → Bool
  | .leaf _ => false
  | .node (.ref _) _ => true
  | .node _ ks => N.hls ks
def N.hls : List N → Bool
  | [] => false
  | k :: ks => k.hl || N.hls ks
end
theorem N.oks_at {h : Hpe} : ∀ {ks : List N} {k : N}, N.oks h ks → k ∈ ks → k.ok h
  | [], _, _, m => by cases m
  | c :: ks, k, o, m => by
    obtain ⟨a, b⟩ : c.ok h ∧ N.oks h ks := o
    rcases List.mem_cons.mp m with rfl | m
    · exact a
    · exact N.oks_at b m
theorem N.oks_of {h : Hpe} : ∀ {ks : List N}, (∀ k ∈ ks, k.ok h) → N.oks h ks
  | [], _ => trivial
  | c :: ks, o => ⟨o c (List.mem_cons_self ..), N.oks_of fun k m => o k (List.mem_cons_of_mem _ m)⟩
mutual
theorem N.ok_mono {h h' : Hpe} (o : ∀ i, i < h.nx → h'.get i = h.get i) (le : h.nx ≤ h'.nx) : ∀ n : N, n.ok h → n.ok h'
  | .leaf w, q => q
  | .node w ks, q => by
    obtain ⟨a, b⟩ : ((w = .tup (ks.map N.val)) ∨ ∃ i, w = .ref i ∧ h.get i = some (.lst (ks.map N.val)) ∧ i < h.nx) ∧ N.oks h ks := q
    refine ⟨?_, N.oks_mono o le ks b⟩
    rcases a with a | ⟨i, e, g, hi⟩
    · exact .inl a
    · exact .inr ⟨i, e, (o i hi).trans g, Nat.lt_of_lt_of_le hi le⟩
theorem N.oks_mono {h h' : Hpe} (o : ∀ i, i < h.nx → h'.get i = h.get i) (le : h.nx ≤ h'.nx) : ∀ ks : List N, N.oks h ks → N.oks h' ks
  | [], _ => trivial
  | k :: ks, q => by
    obtain ⟨a, b⟩ : k.ok h ∧ N.oks h ks := q
    exact ⟨N.ok_mono o le k a, N.oks_mono o le ks b⟩
end
theorem N.pres_kids : ∀ ks : List N, N.pres (N.kids ks) = N.pres ks
  | [] => rfl
  | .leaf w :: ks => N.pres_kids ks
  | .node w cs :: ks => by
    show (N.node w cs).pre ++ N.pres (N.kids ks) = (N.node w cs).pre ++ N.pres ks
    rw [N.pres_kids ks]
theorem N.pres_app : ∀ a b : List N, N.pres (a ++ b) = N.pres a ++ N.pres b
  | [], b => rfl
  | k :: a, b => by
    show k.pre ++ N.pres (a ++ b) = (k.pre ++ N.pres a) ++ N.pres b
    rw [N.pres_app a b, List.append_assoc]
theorem N.szs_app : ∀ a b : List N, N.szs (a ++ b) = N.szs a + N.szs b
  | [], b => (Nat.zero_add _).symm
  | k :: a, b => by
    show k.sz + N.szs (a ++ b) = k.sz + N.szs a + N.szs b
    rw [N.szs_app a b, Nat.add_assoc]
theorem N.sz_pos : ∀ n : N, 1 ≤ n.sz
  | .leaf _ => Nat.le_refl _
  | .node _ ks => Nat.le_add_left 1 _
theorem N.szs_len : ∀ ks : List N, ks.length ≤ N.szs ks
  | [] => Nat.le_refl _
  | k :: ks => by
    have := N.szs_len ks
    have := k.sz_pos
    show ks.length + 1 ≤ k.sz + N.szs ks
    omega
theorem N.szs_kids : ∀ ks : List N, N.szs (N.kids ks) ≤ N.szs ks
  | [] => Nat.le_refl _
  | .leaf w :: ks => by
    have := N.szs_kids ks
    show N.szs (N.kids ks) ≤ 1 + N.szs ks
    omega
  | .node w cs :: ks => by
    have := N.szs_kids ks
    show (N.node w cs).sz + N.szs (N.kids ks) ≤ (N.node w cs).sz + N.szs ks
    omega
theorem N.kids_node {ks : List N} {k : N} (m : k ∈ N.kids ks) : ∃ w cs, k = .node w cs := by
  have := (List.mem_filter.mp m).2
  cases k with
  | leaf w => cases this
  | node w cs => exact ⟨w, cs, rfl⟩
theorem N.inst_l {h : Hpe} {n : N} (o : n.ok h) : ∃ b b', instW .list n.val h = some b ∧ instW .tuple n.val h = some b' ∧ (b || b') = n.isN ∧ noClo n.val = true := by
  cases n with
  | leaf w =>
    have o : lfW w = true := o
    cases w <;> first | exact ⟨_, _, rfl, rfl, rfl, rfl⟩ | cases o
  | node w ks =>
    obtain ⟨a, _⟩ : ((w = .tup (ks.map N.val)) ∨ ∃ i, w = .ref i ∧ h.get i = some (.lst (ks.map N.val)) ∧ i < h.nx) ∧ N.oks h ks := o
    rcases a with rfl | ⟨i, rfl, g, _⟩
    · exact ⟨_, _, rfl, rfl, rfl, rfl⟩
    · exact ⟨_, _, iw_lst g, iw_lst g, rfl, rfl⟩
theorem N.rd {h : Hpe} {w : W} {ks : List N} (o : (N.node w ks).ok h) : rdS w h = some (ks.map N.val) := by
  obtain ⟨a, _⟩ : ((w = .tup (ks.map N.val)) ∨ ∃ i, w = .ref i ∧ h.get i = some (.lst (ks.map N.val)) ∧ i < h.nx) ∧ N.oks h ks := o
  rcases a with rfl | ⟨i, rfl, g, _⟩
  · rfl
  · exact rdL_of g
end EV
namespace EV
open PySem
section
local macro_rules | `(tactic| w_up) => `(tactic| simp only [w_seq, w_nil, w_rt, w_rtN, w_ex, w_as, w_if, w_par, w_rs, w_au, w_v, w_k, w_aN, w_aC, w_e2, w_tup, w_lst, w_cl, w_cl0, w_bl, w_asB, w_asT, w_tNt, w_tAn, w_tOr, w_tYs, w_eIf, w_eAn, w_eNtT, w_eOrT, w_oS, w_oN, w_eIs, w_eIs2, w_mt, w_mt0, wp_ok, wp_exc, List.getElem?_cons_zero, List.getElem?_cons_succ, List.set_cons_zero, List.set_cons_succ, Option.some.injEq, exists_eq_left', nc_int, nc_bl, nc_tup, nc_ref, nc_non, nc_str, true_and, and_true, List.length_cons, List.length_nil, List.map_cons, List.map_nil, W.bl.injEq, W.int.injEq, Bool.not_true, Bool.not_false, Bool.not_not, Bool.false_eq_true, if_true, if_false, iw_tup, iw_int, iw_bl, iw_str, iw_non, tr_bl, tr_int, tr_tup, tr_non, Bool.or_true, Bool.or_false, Bool.true_or, wipeR, qe_bl, qe_int, qe_non, isN_f, isN_t, beq_self_eq_true, bne_self_eq_false, Bool.false_bne, Bool.true_bne, o_gI, o_gI0, o_gB0, o_mulI, add_ii, o_mulW, o_addW, wd_fold, nc_wd, tr_wd, w_sl, sl_wd, cut_toN, cut_frN, qe_wd, len_wd])
theorem w_rev2 {f : FE} {ρ : Rho} {h : Hpe} {Q : W → Hpe → Prop} {E : Exc → Hpe → Prop} (e : (f ρ h).Wp (fun w h1 => ∃ n ws, w = .ref n ∧ h1.get n = some (.lst ws) ∧ h1.nx < 1000000000 ∧ Q (.ref h1.nx) (h1.new (.lst ws.reverse))) E) : (eRev2 f ρ h).Wp Q E := by
  unfold eRev2
  rw [wp_bind]
  refine e.mono (fun w h1 q => ?_) (fun _ _ q => q)
  obtain ⟨n, ws, rfl, g, nx, q⟩ := q
  dsimp only
  rw [rdL_of g]
  dsimp only
  rw [w_al]
  exact ⟨by omega, q⟩
theorem w_ext {n k : Nat} {ws zs : List W} {h : Hpe} {Q : W → Hpe → Prop} {E : Exc → Hpe → Prop} (g : h.get n = some (.lst ws)) (gk : h.get k = some (.lst zs)) (l : ws.length + zs.length ≤ 100000) (q : Q .non (h.set n (.lst (ws ++ zs)))) : (mExt (.ref n) [.ref k] h).Wp Q E := by
  unfold mExt
  dsimp only
  rw [g, gk]
  dsimp only
  rw [line_of l]
  exact q
theorem w_iW {f : FE} {ρ : Rho} {h : Hpe} {Q : Src → Hpe → Prop} {E : Exc → Hpe → Prop} (e : (f ρ h).Wp (fun w h1 => ∃ ks, (N.node w ks).ok h1 ∧ ∀ src : Src, (∀ h2 i, (N.node w ks).ok h2 → src h2 i = some (ks.map N.val)[i]?) → Q src h1) E) : (iV3 f ρ h).Wp Q E := by
  unfold iV3
  rw [wp_bind]
  refine e.mono (fun w h1 q => ?_) (fun _ _ q => q)
  obtain ⟨ks, o, q⟩ := q
  obtain ⟨a, _⟩ : ((w = .tup (ks.map N.val)) ∨ ∃ i, w = .ref i ∧ h1.get i = some (.lst (ks.map N.val)) ∧ i < h1.nx) ∧ N.oks h1 ks := o
  rcases a with rfl | ⟨i, rfl, g, _⟩
  · exact q _ fun h2 i _ => srcT_at _ _ _
  · have lk : lockW h1 i = none := by unfold lockW; rw [g]
    dsimp only
    rw [lk]
    dsimp only
    rw [rdL_of g]
    refine q _ fun h2 j o2 => ?_
    obtain ⟨a, _⟩ : ((W.ref i = .tup (ks.map N.val)) ∨ ∃ i', W.ref i = .ref i' ∧ h2.get i' = some (.lst (ks.map N.val)) ∧ i' < h2.nx) ∧ N.oks h2 ks := o2
    rcases a with a | ⟨i', e, g2, _⟩
    · cases a
    · cases e
      exact srcL_at (rdL_of g2) j
def preW (l : List (W × Nat)) : List W := l.map fun p => .tup [p.1, .int (p.2 : Int)]
def fzDown : FS := (sSeq (sAs (eMt0 chkL mPop (eV 2)) (gN 3))
      (sSeq (sUn (sAs (eLc (iV3 (eV 3)) (gN 5) (asT (eIs2 Kd.list Kd.tuple (eV 5))) (eV 5) [5]) (gN 4)))
      (sSeq (sEx (eMt chkL mApp (eV 1) (aC (eTup (aC (eV 3) (aC (eBl bLen3 (aC (eV 4) aN)) aN))) aN)))
      (sSeq (sEx (eMt chkL mExt (eV 2) (aC (eRev2 (eV 4)) aN)))
      sNil))))
structure Down (v : W) (root : N) (a b : Nat) (h0 : Hpe) (k : Nat) (ρ : Rho) (h : Hpe) (did : List (W × Nat)) (pend : List N) : Prop where
  ρs : ∃ v3 v4 v5, ρ = [some v, some (.ref a), some (.ref b), v3, v4, v5, none, none, none]
  ga : h.get a = some (.lst (preW did))
  gb : h.get b = some (.lst (pend.map N.val).reverse)
  all : did ++ N.pres pend = root.pre
  nod : ∀ p ∈ pend, ∃ w cs, p = .node w cs
  oks : N.oks h0 pend
  le : N.szs pend + did.length ≤ root.sz
  sz : N.szs pend = k
  gr : Gr noM (2 + 2 * did.length) h0 h
  a0 : h0.nx ≤ a
  b0 : h0.nx ≤ b
  ab : a ≠ b
  al : a < h.nx
  bl : b < h.nx
theorem down_step {v : W} {root : N} {a b : Nat} {h0 : Hpe} {k : Nat} {ρ : Rho} {h : Hpe} {did : List (W × Nat)} {pend : List N} {D : Po} (s : Down v root a b h0 k ρ h did pend) (rs : root.sz ≤ 20000) (n0 : h0.nx ≤ 10000000) (l0 : h0.lk = []) (ne : pend ≠ [])
    (q : ∀ k' ρ' h' did' pend', k' < k → Down v root a b h0 k' ρ' h' did' pend' → D.nx ρ' h') : (fzDown ρ h).Wp D := by
  obtain ⟨⟨v3, v4, v5, rfl⟩, ga, gb, all, nod, oks, le, sz, gr, a0, b0, ab, al, bl⟩ := s
  cases pend with
  | nil => exact absurd rfl ne
  | cons p rest =>
    obtain ⟨w, ks, rfl⟩ := nod p (List.mem_cons_self ..)
    obtain ⟨ok, oksR⟩ : (N.node w ks).ok h0 ∧ N.oks h0 rest := oks
    have okk : N.oks h0 ks := (show _ ∧ N.oks h0 ks from ok).2
    have grl := gr.lt
    have lk := gr.lk.trans l0
    have szp : N.szs (N.node w ks :: rest) = N.szs ks + 1 + N.szs rest := rfl
    have szk := N.szs_kids ks
    have lnK := N.szs_len (N.kids ks)
    have lnR := N.szs_len rest
    have lks := N.szs_len ks
    have nw : noClo w = true := by
      obtain ⟨_, _, _, _, _, z⟩ := N.inst_l ok
      exact z
    unfold fzDown
    w_up
    refine ⟨chk_lst gb, ?_⟩
    rw [List.map_cons, List.reverse_cons] at gb
    refine w_pop gb ?_
    have grs : Gr noM (2 + 2 * did.length) h0 (h.set b (.lst (rest.map N.val).reverse)) :=
      ⟨gr.le, gr.lt, fun i hi m => by rw [get_set (by omega), if_neg (by omega)]; exact gr.old i hi m, gr.lk⟩
    have gs : ∀ i, i < h.nx → i ≠ b → (h.set b (.lst (rest.map N.val).reverse)).get i = h.get i := fun i hi m => by rw [get_set (by omega), if_neg m]
    have gb1 : (h.set b (.lst (rest.map N.val).reverse)).get b = some (.lst (rest.map N.val).reverse) := by rw [get_set (by omega), if_pos rfl]
    have ga1 : (h.set b (.lst (rest.map N.val).reverse)).get a = some (.lst (preW did)) := by rw [get_set (by omega), if_neg ab]; exact ga
    have x1 : (h.set b (.lst (rest.map N.val).reverse)).nx = h.nx := rfl
    have lk1 : (h.set b (.lst (rest.map N.val).reverse)).lk = [] := lk
    generalize h.set b (.lst (rest.map N.val).reverse) = h1 at grs gs gb1 ga1 x1 lk1 ⊢
    have okm : ∀ (h' : Hpe) (c : Nat) (n : N), Gr noM c h0 h' → n.ok h0 → n.ok h' := fun h' c n g o => N.ok_mono (fun i hi => g.old i hi fun z => z) g.le n o
    rw [w_un]
    w_up
    -- the wholes within
    with_reducible refine w_lc (ks.map N.val) (fun i ys h2 => h2 = h1 ∧ i ≤ ks.length ∧ ys = ((ks.take i).filter N.isN).map N.val) ?_ ?_ ?_ ?_
    · rw [List.length_map]; omega
    · refine w_iW ?_
      w_up
      refine ⟨nw, ks, okm _ _ _ grs ok, fun src hs => ⟨⟨Nat.zero_le _, rfl⟩, ?_⟩⟩
      rintro i ys h2 ⟨rfl, _, _⟩
      exact hs _ _ (okm _ _ _ grs ok)
    · rintro i u ys h2 eu ⟨rfl, hi, rfl⟩
      rw [List.getElem?_map] at eu
      cases e : ks[i]? with
      | none => rw [e] at eu; cases eu
      | some n =>
        rw [e] at eu
        cases eu
        have lt := (List.getElem?_eq_some_iff.mp e).1
        have on := okm _ _ _ grs (N.oks_at okk (List.mem_of_getElem? e))
        obtain ⟨c1, c2, i1, i2, c3, nc⟩ := N.inst_l on
        have tk : (ks.take (i + 1)).filter N.isN = (ks.take i).filter N.isN ++ (if n.isN = true then [n] else []) := by
          rw [List.take_add_one, e, List.filter_append]
          show _ ++ [n].filter N.isN = _
          rw [List.filter_cons, List.filter_nil]
        rw [w_gN]
        w_up
        refine ⟨nc, c1, i1, c2, i2, ?_⟩
        rw [c3, tk]
        by_cases q : n.isN = true
        · rw [if_pos q, if_pos q, List.map_append]
          exact ⟨nc, by omega, rfl⟩
        · rw [if_neg q, if_neg q, List.append_nil]
          exact ⟨by omega, rfl⟩
    · rintro ys h2 ⟨rfl, _, rfl⟩
      rw [List.length_map, List.take_length]
      refine ⟨by omega, ?_⟩
      rw [unl_nil lk1 (show (h2.new _).lk = [] from lk1)]
      change _ ∧ _ ∧ _ ∧ _
      have gk := new_get (h := h2) (.lst ((N.kids ks).map N.val)) (by omega)
      have g2 : Gr noM 1 h2 (h2.new (.lst ((N.kids ks).map N.val))) := Gr.new _
      have x2 : (h2.new (.lst ((N.kids ks).map N.val))).nx = h2.nx + 1 := rfl
      unfold N.kids at gk g2 x2 lnK szk
      generalize h2.new (.lst ((ks.filter N.isN).map N.val)) = h3 at gk g2 x2 ⊢
      have ga3 := (g2.old a (by omega) fun z => z).trans ga1
      have gb3 := (g2.old b (by omega) fun z => z).trans gb1
      have ld : did.length ≤ 20000 := by omega
      refine ⟨chk_lst ga3, nw, rfl, ?_⟩
      rw [len_l gk]
      w_up
      refine ⟨rfl, w_app ga3 (by unfold preW; rw [List.length_map]; omega) ?_⟩
      -- h4: the wholes, one more
      have g4 : ∀ i, i ≠ a → (h3.set a (.lst (preW did ++ [.tup [w, .int (((ks.filter N.isN).map N.val).length : Nat)]]))).get i = h3.get i := fun i m => by rw [get_set (by omega), if_neg m]
      have ga4 : (h3.set a (.lst (preW did ++ [.tup [w, .int (((ks.filter N.isN).map N.val).length : Nat)]]))).get a = some (.lst (preW did ++ [.tup [w, .int (((ks.filter N.isN).map N.val).length : Nat)]])) := by rw [get_set (by omega), if_pos rfl]
      have x4 : (h3.set a (.lst (preW did ++ [.tup [w, .int (((ks.filter N.isN).map N.val).length : Nat)]]))).nx = h3.nx := rfl
      have l4 : (h3.set a (.lst (preW did ++ [.tup [w, .int (((ks.filter N.isN).map N.val).length : Nat)]]))).lk = h3.lk := rfl
      show chkL _ (h3.set a (.lst (preW did ++ [.tup [w, .int (((ks.filter N.isN).map N.val).length : Nat)]]))) = true ∧ (eRev2 (eV 4) _ (h3.set a (.lst (preW did ++ [.tup [w, .int (((ks.filter N.isN).map N.val).length : Nat)]])))).Wp _ _
      generalize h3.set a (.lst (preW did ++ [.tup [w, .int (((ks.filter N.isN).map N.val).length : Nat)]])) = h4 at g4 ga4 x4 l4 ⊢
      have gb4 := (g4 b (fun z => ab z.symm)).trans gb3
      have gk4 := (g4 h2.nx (by omega)).trans gk
      refine ⟨chk_lst gb4, w_rev2 ?_⟩
      w_up
      refine ⟨h2.nx, _, rfl, gk4, by omega, ?_⟩
      have g5 : Gr noM 1 h4 (h4.new (.lst ((ks.filter N.isN).map N.val).reverse)) := Gr.new _
      have gk5 := new_get (h := h4) (.lst ((ks.filter N.isN).map N.val).reverse) (by omega)
      have x5 : (h4.new (.lst ((ks.filter N.isN).map N.val).reverse)).nx = h4.nx + 1 := rfl
      generalize h4.new (.lst ((ks.filter N.isN).map N.val).reverse) = h5 at g5 gk5 x5 ⊢
      have ga5 := (g5.old a (by omega) fun z => z).trans ga4
      have gb5 := (g5.old b (by omega) fun z => z).trans gb4
      refine w_ext gb5 gk5 (by rw [List.length_reverse, List.length_reverse, List.length_map, List.length_map]; omega) ?_
      have pk : (ks.filter N.isN).length = (N.kids ks).length := rfl
      refine q (N.szs (N.kids ks ++ rest)) _ _ (did ++ [(w, (N.kids ks).length)]) (N.kids ks ++ rest) (by rw [N.szs_app]; unfold N.kids; omega) ⟨⟨_, _, _, rfl⟩, ?_, ?_, ?_, ?_, ?_, ?_, rfl, ?_, a0, b0, ab, by show a < h5.nx; omega, by show b < h5.nx; omega⟩
      · rw [get_set (by omega), if_neg ab, ga5]
        unfold preW
        rw [List.map_append, List.length_map]
        rfl
      · rw [get_set (by omega), if_pos rfl, List.map_append, List.reverse_append]
        rfl
      · rw [N.pres_app, N.pres_kids, ← all, List.append_assoc]
        rfl
      · intro p hp
        rcases List.mem_append.mp hp with hp | hp
        · exact N.kids_node hp
        · exact nod p (List.mem_cons_of_mem _ hp)
      · refine N.oks_of fun p hp => ?_
        rcases List.mem_append.mp hp with hp | hp
        · exact N.oks_at okk (List.mem_filter.mp hp).1
        · exact N.oks_at oksR hp
      · rw [N.szs_app, List.length_append]
        unfold N.kids
        show _ + (did.length + 1) ≤ _
        omega
      · have o : ∀ i, i < h0.nx → (h5.set b (.lst ((rest.map N.val).reverse ++ ((ks.filter N.isN).map N.val).reverse))).get i = h0.get i := fun i hi => by
          rw [get_set (by omega), if_neg (by omega), g5.old i (by omega) fun z => z, g4 i (by omega), g2.old i (by omega) fun z => z]
          exact grs.old i hi fun z => z
        refine ⟨by show h0.nx ≤ h5.nx; have := grs.le; omega, by show h5.nx ≤ _; rw [List.length_append]; show _ ≤ _ + (2 + 2 * (did.length + 1)); omega, fun i hi _ => o i hi, ?_⟩
        show h5.lk = h0.lk
        rw [g5.lk, l4, g2.lk]
        exact grs.lk
end
end EV
namespace EV
open PySem
mutual
def N.preN : N → List N
  | .leaf _ => []
  | .node w ks => .node w ks :: N.preNs ks
def N.preNs : List N → List N
  | [] => []
  | k :: ks => k.preN ++ N.preNs ks
end
def N.ch : N → List N
  | .leaf _ => []
  | .node _ ks => ks
def N.ent (n : N) : W × Nat := (n.val, (N.kids n.ch).length)
mutual
theorem N.pre_eq : ∀ n : N, n.pre = n.preN.map N.ent
  | .leaf _ => rfl
  | .node w ks => by
    show (w, (N.kids ks).length) :: N.pres ks = (N.node w ks).ent :: (N.preNs ks).map N.ent
    rw [N.pres_eq ks]
    rfl
theorem N.pres_eq : ∀ ks : List N, N.pres ks = (N.preNs ks).map N.ent
  | [] => rfl
  | k :: ks => by
    show k.pre ++ N.pres ks = (k.preN ++ N.preNs ks).map N.ent
    rw [List.map_append, N.pre_eq k, N.pres_eq ks]
end
def N.dn : List N → List W
  | [] => []
  | n :: r => (N.dn r).take ((N.dn r).length - (N.kids n.ch).length) ++ [n.fro]
mutual
theorem N.dn_pre : ∀ (n : N) (S : List N), n.isN = true → N.dn (n.preN ++ S) = N.dn S ++ [n.fro]
  | .leaf _, S, h => by cases h
  | .node w ks, S, _ => by
    show (N.dn (N.preNs ks ++ S)).take ((N.dn (N.preNs ks ++ S)).length - (N.kids ks).length) ++ [(N.node w ks).fro] = _
    rw [N.dn_pres ks S, List.length_append, List.length_reverse, List.length_map, Nat.add_sub_cancel, List.take_left]
theorem N.dn_pres : ∀ (ks : List N) (S : List N), N.dn (N.preNs ks ++ S) = N.dn S ++ ((N.kids ks).map N.fro).reverse
  | [], S => by
    show N.dn S = N.dn S ++ []
    rw [List.append_nil]
  | .leaf w :: ks, S => N.dn_pres ks S
  | .node w cs :: ks, S => by
    show N.dn (((N.node w cs).preN ++ N.preNs ks) ++ S) = N.dn S ++ (((N.node w cs) :: N.kids ks).map N.fro).reverse
    rw [List.append_assoc, N.dn_pre (.node w cs) _ rfl, N.dn_pres ks S, List.map_cons, List.reverse_cons, List.append_assoc]
end
mutual
theorem N.pre_split : ∀ (n : N) {A S : List N} {c : N}, n.preN = A ++ c :: S → ∃ S', S = N.preNs c.ch ++ S'
  | .leaf _, A, S, c, e => by cases A <;> cases e
  | .node w ks, A, S, c, e => by
    cases A with
    | nil =>
      have e : N.node w ks :: N.preNs ks = c :: S := e
      cases e
      exact ⟨[], (List.append_nil _).symm⟩
    | cons a A =>
      have e : N.node w ks :: N.preNs ks = a :: (A ++ c :: S) := e
      exact N.pres_split ks (List.cons.inj e).2
theorem N.pres_split : ∀ (ks : List N) {A S : List N} {c : N}, N.preNs ks = A ++ c :: S → ∃ S', S = N.preNs c.ch ++ S'
  | [], A, S, c, e => by cases A <;> cases e
  | k :: ks, A, S, c, e => by
    have e : k.preN ++ N.preNs ks = A ++ c :: S := e
    rcases List.append_eq_append_iff.mp e with ⟨B, e1, e2⟩ | ⟨B, e1, e2⟩
    · exact N.pres_split ks e2
    · cases B with
      | nil =>
        exact N.pres_split ks (A := []) e2.symm
      | cons b B =>
        have e2 : c :: S = b :: (B ++ N.preNs ks) := e2
        cases e2
        obtain ⟨S', e3⟩ := N.pre_split k e1
        exact ⟨S' ++ N.preNs ks, by rw [e3, List.append_assoc]⟩
end
mutual
theorem N.pre_isN : ∀ (n : N), ∀ c ∈ n.preN, c.isN = true
  | .leaf _, c, m => by cases m
  | .node w ks, c, m => by
    rcases List.mem_cons.mp (show c ∈ N.node w ks :: N.preNs ks from m) with rfl | m
    · rfl
    · exact N.pres_isN ks c m
theorem N.pres_isN : ∀ (ks : List N), ∀ c ∈ N.preNs ks, c.isN = true
  | [], c, m => by cases m
  | k :: ks, c, m => by
    rcases List.mem_append.mp (show c ∈ k.preN ++ N.preNs ks from m) with m | m
    · exact N.pre_isN k c m
    · exact N.pres_isN ks c m
end
mutual
theorem N.pre_ok {h : Hpe} : ∀ (n : N), n.ok h → ∀ c ∈ n.preN, c.ok h
  | .leaf _, _, c, m => by cases m
  | .node w ks, o, c, m => by
    rcases List.mem_cons.mp (show c ∈ N.node w ks :: N.preNs ks from m) with rfl | m
    · exact o
    · exact N.pres_ok ks (show _ ∧ N.oks h ks from o).2 c m
theorem N.pres_ok {h : Hpe} : ∀ (ks : List N), N.oks h ks → ∀ c ∈ N.preNs ks, c.ok h
  | [], _, c, m => by cases m
  | k :: ks, o, c, m => by
    obtain ⟨a, b⟩ : k.ok h ∧ N.oks h ks := o
    rcases List.mem_append.mp (show c ∈ k.preN ++ N.preNs ks from m) with m | m
    · exact N.pre_ok k a c m
    · exact N.pres_ok ks b c m
end
theorem N.fros_map : ∀ ks : List N, N.fros ks = ks.map N.fro
  | [] => rfl
  | k :: ks => by
    show k.fro :: N.fros ks = k.fro :: ks.map N.fro
    rw [N.fros_map ks]
theorem N.flat : ∀ {ks : List N}, N.kids ks = [] → ks.map N.val = N.fros ks
  | [], _ => rfl
  | .leaf w :: ks, h => by
    show w :: ks.map N.val = w :: N.fros ks
    rw [N.flat (ks := ks) h]
  | .node w cs :: ks, h => by cases h
theorem N.preN_len : ∀ n : N, n.preN.length ≤ n.sz := by
  intro n
  have main : (∀ n : N, n.preN.length ≤ n.sz) ∧ True := ⟨N.rec (motive_1 := fun n => n.preN.length ≤ n.sz) (motive_2 := fun ks => (N.preNs ks).length ≤ N.szs ks) (fun _ => Nat.zero_le _) (fun w ks ih => Nat.succ_le_succ ih) (Nat.le_refl _) (fun k ks a b => by
    show (k.preN ++ N.preNs ks).length ≤ k.sz + N.szs ks
    rw [List.length_append]
    omega), trivial⟩
  exact main.1 n
theorem srcV_at {a : W} {xs : List W} {h : Hpe} (e : rdS a h = some xs) (i : Nat) : srcV a xs.length h i = some xs.reverse[i]? := by
  unfold srcV
  by_cases c : i < xs.length
  · rw [show Nat.blt i xs.length = true from Nat.ble_eq_true_of_le c, e]
    dsimp only [cond_true]
    have lt : xs.length - 1 - i < xs.length := by omega
    rw [List.getElem?_eq_getElem lt, List.getElem?_eq_getElem (by rw [List.length_reverse]; exact c), List.getElem_reverse]
  · rw [show Nat.blt i xs.length = false by cases q : Nat.blt i xs.length with
      | false => rfl
      | true => exact absurd (Nat.le_of_ble_eq_true q) c]
    rw [List.getElem?_eq_none (by rw [List.length_reverse]; omega)]
    rfl
end EV
namespace EV
open PySem
section
local macro_rules | `(tactic| w_up) => `(tactic| simp only [w_seq, w_nil, w_rt, w_rtN, w_ex, w_as, w_if, w_par, w_rs, w_au, w_v, w_k, w_aN, w_aC, w_e2, w_tup, w_lst, w_cl, w_cl0, w_bl, w_asB, w_asT, w_tNt, w_tAn, w_tOr, w_tYs, w_eIf, w_eAn, w_eNtT, w_eOrT, w_oS, w_oN, w_eIs, w_eIs2, w_mt, w_mt0, wp_ok, wp_exc, List.getElem?_cons_zero, List.getElem?_cons_succ, List.set_cons_zero, List.set_cons_succ, Option.some.injEq, exists_eq_left', nc_int, nc_bl, nc_tup, nc_ref, nc_non, nc_str, true_and, and_true, List.length_cons, List.length_nil, List.map_cons, List.map_nil, W.bl.injEq, W.int.injEq, Bool.not_true, Bool.not_false, Bool.not_not, Bool.false_eq_true, if_true, if_false, iw_tup, iw_int, iw_bl, iw_str, iw_non, tr_bl, tr_int, tr_tup, tr_non, Bool.or_true, Bool.or_false, Bool.true_or, wipeR, qe_bl, qe_int, qe_non, isN_f, isN_t, beq_self_eq_true, bne_self_eq_false, Bool.false_bne, Bool.true_bne, o_gI, o_gI0, o_gB0, o_mulI, add_ii, o_mulW, o_addW, wd_fold, nc_wd, tr_wd, w_sl, sl_wd, cut_toN, cut_frN, qe_wd, len_wd])
def fzUp : FS := (sSeq (sIf (asB (e2 (gEq false) (eV 7) (eK (.int 0)))) (sSeq (sEx (eMt chkL mApp (eV 6) (aC (eBl bTup (aC (eV 3) aN)) aN)))
      sNil) (sSeq (sUn (sAs (eLc (iV3 (eV 3)) (gN 5) tYs (eIf (asT (eIs2 Kd.list Kd.tuple (eV 5))) (eMt0 chkL mPop (eV 6)) (eV 5)) [5]) (gN 8)))
      (sSeq (sEx (eMt chkL mApp (eV 6) (aC (eBl bTup (aC (eV 8) aN)) aN)))
      sNil)))
      sNil)
theorem w_btup {w : W} {ws : List W} {h : Hpe} {Q : W → Hpe → Prop} {E : Exc → Hpe → Prop} (e : rdS w h = some ws) (q : Q (.tup ws) h) : (bTup [w] h).Wp Q E := by
  unfold bTup
  dsimp only
  rw [e]
  exact q
theorem N.leaf_fro {n : N} (h : n.isN = false) : n.val = n.fro := by
  cases n with
  | leaf w => rfl
  | node w ks => cases h
theorem up_step {w : W} {ks : List N} {dn : Nat} {B : List W} {h0 h : Hpe} {v0 v1 v2 v4 v5 v8 : Option W} {D : Po} (ok : ∀ h', (∀ i, i < h0.nx → h'.get i = h0.get i) → h0.nx ≤ h'.nx → (N.node w ks).ok h') (lk : h.lk = []) (nx : h.nx ≤ 100000000) (old : ∀ i, i < h0.nx → h.get i = h0.get i) (le : h0.nx ≤ h.nx) (d0 : h0.nx ≤ dn) (dl : dn < h.nx) (lb : B.length ≤ 40000) (ls : ks.length ≤ 40000)
    (gd : h.get dn = some (.lst (B ++ ((N.kids ks).map N.fro).reverse)))
    (q : ∀ h' v5 v8, (∀ i, i < h0.nx → h'.get i = h0.get i) → h.nx ≤ h'.nx → h'.nx ≤ h.nx + 1 → h'.lk = [] → (∀ i, i < h.nx → i ≠ dn → h'.get i = h.get i) → h'.get dn = some (.lst (B ++ [(N.node w ks).fro])) → D.nx [v0, v1, v2, some w, v4, v5, some (.ref dn), some (.int ((N.kids ks).length : Nat)), v8] h') :
    (fzUp [v0, v1, v2, some w, v4, v5, some (.ref dn), some (.int ((N.kids ks).length : Nat)), v8] h).Wp D := by
  have okh := ok h old le
  obtain ⟨_, _, _, _, _, nw⟩ := N.inst_l okh
  have nw : noClo w = true := nw
  have frn : (N.node w ks).fro = .tup (N.fros ks) := rfl
  have kl : (N.kids ks).length ≤ ks.length := List.length_filter_le _ _
  unfold fzUp
  w_up
  by_cases c : (N.kids ks).length = 0
  · have kn : N.kids ks = [] := List.length_eq_zero_iff.mp c
    rw [show (((N.kids ks).length : Int) == 0) = true by rw [beq_iff_eq]; omega]
    w_up
    rw [kn] at gd
    have gd : h.get dn = some (.lst B) := by
      rw [gd]
      exact congrArg (fun l => some (Ob.lst l)) (List.append_nil _)
    refine ⟨chk_lst gd, nw, w_btup (N.rd okh) (w_app gd (by omega) ?_)⟩
    rw [kn] at q ⊢
    rw [N.flat kn, ← frn]
    exact q _ _ _ (fun i hi => by rw [get_set (by omega), if_neg (by omega)]; exact old i hi) (Nat.le_refl _) (Nat.le_succ _) lk (fun i hi m => by rw [get_set (by omega), if_neg m]) (by rw [get_set (by omega), if_pos rfl])
  · rw [show (((N.kids ks).length : Int) == 0) = false by rw [beq_eq_false_iff_ne]; omega]
    w_up
    rw [w_un]
    w_up
    with_reducible refine w_lc (ks.map N.val) (fun i ys h2 => i ≤ ks.length ∧ ys = (N.fros ks).take i ∧ h2.lk = [] ∧ h2.nx = h.nx ∧ h2.get dn = some (.lst (B ++ ((N.kids (ks.drop i)).map N.fro).reverse)) ∧ ∀ i, i < h.nx → i ≠ dn → h2.get i = h.get i) ?_ ?_ ?_ ?_
    · rw [List.length_map]; omega
    · refine w_iW ?_
      w_up
      refine ⟨nw, ks, okh, fun src hs => ⟨⟨Nat.zero_le _, by rw [List.take_zero], lk, gd, fun _ _ _ => trivial⟩, ?_⟩⟩
      rintro i ys h2 ⟨_, _, _, nx2, _, o2⟩
      exact hs _ _ (ok h2 (fun j hj => (o2 j (by omega) (by omega)).trans (old j hj)) (by omega))
    · rintro i u ys h2 eu ⟨hi, rfl, lk2, nx2, gd2, o2⟩
      rw [List.getElem?_map] at eu
      cases e : ks[i]? with
      | none => rw [e] at eu; cases eu
      | some n =>
        rw [e] at eu
        cases eu
        have lt := (List.getElem?_eq_some_iff.mp e).1
        have okn : (N.node w ks).ok h2 := ok h2 (fun j hj => (o2 j (by omega) (by omega)).trans (old j hj)) (by omega)
        have on := N.oks_at (show _ ∧ N.oks h2 ks from okn).2 (List.mem_of_getElem? e)
        obtain ⟨c1, c2, i1, i2, c3, nc⟩ := N.inst_l on
        have dr : ks.drop i = n :: ks.drop (i + 1) := by
          rw [List.drop_eq_getElem_cons lt]
          exact congrArg (· :: _) (List.getElem?_eq_some_iff.mp e).2
        have ft : (N.fros ks).take (i + 1) = (N.fros ks).take i ++ [n.fro] := by
          rw [N.fros_map, List.take_add_one, List.getElem?_map, e]
          rfl
        rw [w_gN]
        w_up
        refine ⟨nc, c1, i1, c2, i2, ?_⟩
        rw [c3, ft]
        by_cases q1 : n.isN = true
        · rw [if_pos q1]
          have kd : N.kids (ks.drop i) = n :: N.kids (ks.drop (i + 1)) := by
            rw [dr]
            unfold N.kids
            rw [List.filter_cons, if_pos q1]
          rw [kd, List.map_cons, List.reverse_cons, ← List.append_assoc] at gd2
          refine ⟨chk_lst gd2, w_pop gd2 ⟨by omega, rfl, lk2, nx2, by rw [get_set (by omega), if_pos rfl], fun j hj m => by rw [get_set (by omega), if_neg m]; exact o2 j hj m⟩⟩
        · rw [if_neg q1]
          have kd : N.kids (ks.drop i) = N.kids (ks.drop (i + 1)) := by
            rw [dr]
            unfold N.kids
            rw [List.filter_cons, if_neg q1]
          rw [kd] at gd2
          have q2 : n.isN = false := by cases z : n.isN with
            | true => exact absurd z q1
            | false => rfl
          exact ⟨nc, by omega, by rw [N.leaf_fro q2], lk2, nx2, gd2, o2⟩
    · rintro ys h2 ⟨_, rfl, lk2, nx2, gd2, o2⟩
      rw [List.length_map, List.drop_length] at gd2
      have tk : (N.fros ks).take (ks.map N.val).length = N.fros ks := by
        rw [List.length_map, N.fros_map, List.take_of_length_le (by rw [List.length_map]; omega)]
      rw [tk]
      have gd2 : h2.get dn = some (.lst B) := by
        rw [gd2]
        exact congrArg (fun l => some (Ob.lst l)) (List.append_nil _)
      refine ⟨by omega, ?_⟩
      rw [unl_nil lk (show (h2.new _).lk = [] from lk2)]
      have gk := new_get (h := h2) (.lst (N.fros ks)) (by omega)
      have g3 : Gr noM 1 h2 (h2.new (.lst (N.fros ks))) := Gr.new _
      have x3 : (h2.new (.lst (N.fros ks))).nx = h2.nx + 1 := rfl
      show chkL _ (h2.new (.lst (N.fros ks))) = true ∧ _
      generalize h2.new (.lst (N.fros ks)) = h3 at gk g3 x3 ⊢
      have gd3 := (g3.old dn (by omega) fun z => z).trans gd2
      refine ⟨chk_lst gd3, rfl, w_btup (rdL_of gk) (w_app gd3 (by omega) ?_)⟩
      rw [← frn]
      have o3 : ∀ i, i < h.nx → i ≠ dn → (h3.set dn (.lst (B ++ [(N.node w ks).fro]))).get i = h.get i := fun i hi m => by
        rw [get_set (by omega), if_neg m, g3.old i (by omega) fun z => z]
        exact o2 i hi m
      exact q _ _ _ (fun i hi => (o3 i (by omega) (by omega)).trans (old i hi)) (by show h.nx ≤ h3.nx; omega) (by show h3.nx ≤ _; omega) (by show h3.lk = []; rw [g3.lk]; exact lk2) o3 (by rw [get_set (by omega), if_pos rfl])
end
end EV
namespace EV
open PySem
section
local macro_rules | `(tactic| w_up) => `(tactic| simp only [w_seq, w_nil, w_rt, w_rtN, w_ex, w_as, w_if, w_par, w_rs, w_au, w_v, w_k, w_aN, w_aC, w_e2, w_tup, w_lst, w_cl, w_cl0, w_bl, w_asB, w_asT, w_tNt, w_tAn, w_tOr, w_tYs, w_eIf, w_eAn, w_eNtT, w_eOrT, w_oS, w_oN, w_eIs, w_eIs2, w_mt, w_mt0, wp_ok, wp_exc, List.getElem?_cons_zero, List.getElem?_cons_succ, List.set_cons_zero, List.set_cons_succ, Option.some.injEq, exists_eq_left', nc_int, nc_bl, nc_tup, nc_ref, nc_non, nc_str, true_and, and_true, List.length_cons, List.length_nil, List.map_cons, List.map_nil, W.bl.injEq, W.int.injEq, Bool.not_true, Bool.not_false, Bool.not_not, Bool.false_eq_true, if_true, if_false, iw_tup, iw_int, iw_bl, iw_str, iw_non, tr_bl, tr_int, tr_tup, tr_non, Bool.or_true, Bool.or_false, Bool.true_or, wipeR, qe_bl, qe_int, qe_non, isN_f, isN_t, beq_self_eq_true, bne_self_eq_false, Bool.false_bne, Bool.true_bne, o_gI, o_gI0, o_gB0, o_mulI, add_ii, o_mulW, o_addW, wd_fold, nc_wd, tr_wd, w_sl, sl_wd, cut_toN, cut_frN, qe_wd, len_wd])
def uFz (g : List W → Hpe → Res W) : FS :=
    (sSeq (sIf (tNt (asT (eCl 1 g (aC (eV 0) aN)))) (sSeq (sRt (eV 0))
      sNil) sNil)
      (sSeq (sPar 1 2 (aC (eLst aN) (aC (eLst (aC (eV 0) aN)) aN)))
      (sSeq (sWh (asT (eV 2)) fzDown)
      (sSeq (sAs (eLst aN) (gN 6))
      (sSeq (sFor (iRv (eV 1)) (gTL 2 (gsC (gN 3) (gsC (gN 7) gsN))) fzUp)
      (sSeq (sRt (e2 gIx2 (eV 6) (eK (.int 0))))
      sNil))))))
theorem N.dn_len : ∀ l : List N, (N.dn l).length ≤ l.length
  | [] => Nat.le_refl _
  | n :: r => by
    have := N.dn_len r
    show ((N.dn r).take _ ++ [n.fro]).length ≤ r.length + 1
    rw [List.length_append, List.length_take]
    show _ + 1 ≤ _
    omega
mutual
theorem N.pre_sz : ∀ (n : N), ∀ c ∈ n.preN, c.sz ≤ n.sz
  | .leaf _, c, m => by cases m
  | .node w ks, c, m => by
    rcases List.mem_cons.mp (show c ∈ N.node w ks :: N.preNs ks from m) with rfl | m
    · exact Nat.le_refl _
    · have := N.pres_sz ks c m
      show c.sz ≤ N.szs ks + 1
      omega
theorem N.pres_sz : ∀ (ks : List N), ∀ c ∈ N.preNs ks, c.sz ≤ N.szs ks
  | [], c, m => by cases m
  | k :: ks, c, m => by
    rcases List.mem_append.mp (show c ∈ k.preN ++ N.preNs ks from m) with m | m
    · have := N.pre_sz k c m
      show c.sz ≤ k.sz + N.szs ks
      omega
    · have := N.pres_sz ks c m
      show c.sz ≤ k.sz + N.szs ks
      omega
end
theorem w_rv {f : FE} {ρ : Rho} {h : Hpe} {Q : Src → Hpe → Prop} {E : Exc → Hpe → Prop} (e : (f ρ h).Wp (fun w h1 => ∃ ws, rdS w h1 = some ws ∧ Q (srcV w ws.length) h1) E) : (iRv f ρ h).Wp Q E := by
  unfold iRv
  rw [wp_bind]
  refine e.mono (fun w h1 q => ?_) (fun _ _ q => q)
  obtain ⟨ws, e, q⟩ := q
  rw [e]
  exact q
theorem fz_walk {v : W} {root : N} {h0 h : Hpe} {D : Po} (ev : v = root.val) (rn : root.isN = true) (ok : root.ok h0) (rs : root.sz ≤ 20000) (n0 : h.nx ≤ 10000000) (gr0 : Gr noM 0 h0 h) (l0 : h0.lk = [])
    (q : ∀ h', Gr noM 70000 h h' → D.rt root.fro h') :
    ((sSeq (sPar 1 2 (aC (eLst aN) (aC (eLst (aC (eV 0) aN)) aN)))
      (sSeq (sWh (asT (eV 2)) fzDown)
      (sSeq (sAs (eLst aN) (gN 6))
      (sSeq (sFor (iRv (eV 1)) (gTL 2 (gsC (gN 3) (gsC (gN 7) gsN))) fzUp)
      (sSeq (sRt (e2 gIx2 (eV 6) (eK (.int 0))))
      sNil))))) [some v, none, none, none, none, none, none, none, none] h).Wp D := by
  have lk0 : h.lk = [] := gr0.lk.trans l0
  obtain ⟨_, _, _, _, _, nv⟩ := N.inst_l ok
  rw [← ev] at nv
  have okh : root.ok h := N.ok_mono (fun i hi => gr0.old i hi fun z => z) gr0.le _ ok
  have le0 := gr0.le
  have lt0 := gr0.lt
  have n00 : h0.nx = h.nx := by omega
  w_up
  refine ⟨rfl, by omega, nv, rfl, by show h.nx + 1 < _; omega, ?_⟩
  have ga := new_get (h := h) (.lst []) (by omega)
  have g1 : Gr noM 1 h (h.new (.lst [])) := Gr.new _
  have x1 : (h.new (.lst [])).nx = h.nx + 1 := rfl
  generalize h.new (.lst []) = h1 at ga g1 x1 ⊢
  have gb := new_get (h := h1) (.lst [v]) (by omega)
  have g2 : Gr noM 1 h1 (h1.new (.lst [v])) := Gr.new _
  have x2 : (h1.new (.lst [v])).nx = h1.nx + 1 := rfl
  generalize h1.new (.lst [v]) = h2 at gb g2 x2 ⊢
  have ga2 := (g2.old _ (by omega) fun z => z).trans ga
  have node : ∃ w cs, root = .node w cs := by
    cases root with
    | leaf w => cases rn
    | node w cs => exact ⟨w, cs, rfl⟩
  have start : Down v root h.nx h1.nx h0 root.sz [some v, some (.ref h.nx), some (.ref h1.nx), none, none, none, none, none, none] h2 [] [root] := by
    refine ⟨⟨_, _, _, rfl⟩, ga2, by rw [gb, ev]; rfl, ?_, ?_, ⟨ok, trivial⟩, ?_, ?_, ?_, by omega, by omega, by omega, by omega, by omega⟩
    · show root.pre ++ [] = root.pre
      rw [List.append_nil]
    · intro p hp
      rcases List.mem_singleton.mp hp with rfl
      exact node
    · show root.sz + 0 + 0 ≤ root.sz
      omega
    · show root.sz + 0 = root.sz
      omega
    · exact ((gr0.trans g1).trans g2).mono (by omega) fun _ _ z => z
  with_reducible refine w_wh (fun k ρ h' => ∃ did pend, Down v root h.nx h1.nx h0 k ρ h' did pend) root.sz ?_ ?_ ?_
  · omega
  · exact ⟨[], [root], start⟩
  · rintro k ρ h' ⟨did, pend, dn⟩
    obtain ⟨v3, v4, v5, er⟩ := dn.ρs
    have gb' := dn.gb
    rw [w_asT]
    refine Res.Wp.mono (Q := fun w hh => w = .ref h1.nx ∧ hh = h') (E := fun _ _ => False) ?_ ?_ (fun _ _ z => z.elim)
    · rw [er]
      w_up
    · rintro w hh ⟨rfl, rfl⟩
      refine ⟨_, tr_lst gb', ?_⟩
      by_cases c : pend = []
      · subst c
        rw [if_neg (by simp)]
        -- the walk up
        have all := dn.all
        have gr := dn.gr
        have ga' := dn.ga
        rw [show did ++ N.pres [] = did from List.append_nil _, N.pre_eq] at all
        subst all
        have lk' : hh.lk = [] := gr.lk.trans l0
        have pl := N.preN_len root
        have grl := gr.lt
        rw [List.length_map] at grl
        rw [er]
        w_up
        refine ⟨rfl, by omega, ?_⟩
        have gd := new_get (h := hh) (.lst []) (by omega)
        have g3 : Gr noM 1 hh (hh.new (.lst [])) := Gr.new _
        have x3 : (hh.new (.lst [])).nx = hh.nx + 1 := rfl
        generalize hh.new (.lst []) = h3 at gd g3 x3 ⊢
        have ga3 := (g3.old _ dn.al fun z => z).trans ga'
        have al := dn.al
        have a0 := dn.a0
        have old3 : ∀ i, i < h0.nx → h3.get i = h0.get i := fun i hi => (g3.old i (by have := gr.le; omega) fun z => z).trans (gr.old i hi fun z => z)
        have hle := gr.le
        have plw : (preW (root.preN.map N.ent)).length = root.preN.length := by unfold preW; rw [List.length_map, List.length_map]
        with_reducible refine w_for (preW (root.preN.map N.ent)).reverse (fun i ρ h' => ∃ v3 v4 v5 v7 v8, ρ = [some v, some (.ref h.nx), some (.ref h1.nx), v3, v4, v5, some (.ref hh.nx), v7, v8] ∧ i ≤ root.preN.length ∧ h'.get hh.nx = some (.lst (N.dn (root.preN.drop (root.preN.length - i)))) ∧ h'.lk = [] ∧ h3.nx ≤ h'.nx ∧ h'.nx ≤ h3.nx + i ∧ (∀ i, i < h0.nx → h'.get i = h0.get i) ∧ h'.get h.nx = some (.lst (preW (root.preN.map N.ent)))) ?_ ?_ ?_ ?_
        · rw [List.length_reverse, plw]; omega
        · refine w_rv ?_
          w_up
          refine ⟨_, rdL_of ga3, ⟨⟨_, _, _, _, _, rfl, Nat.zero_le _, by rw [Nat.sub_zero, List.drop_length]; exact gd, by rw [g3.lk]; exact lk', Nat.le_refl _, Nat.le_refl _, old3, ga3⟩, ?_⟩⟩
          rintro i ρ h' ⟨_, _, _, _, _, _, _, _, _, _, _, _, gw⟩
          exact srcV_at (a := .ref h.nx) (rdL_of gw) i
        · rintro i w ρ h' ew ⟨u3, u4, u5, u7, u8, rfl, hi, gdn, lkk, nle, nlt, old, gw⟩
          have lt := (List.getElem?_eq_some_iff.mp ew).1
          rw [List.length_reverse, plw] at lt
          have jl : root.preN.length - 1 - i < root.preN.length := by omega
          have ei : root.preN.length - i = root.preN.length - 1 - i + 1 := by omega
          have sp : root.preN = root.preN.take (root.preN.length - 1 - i) ++ root.preN[root.preN.length - 1 - i] :: root.preN.drop (root.preN.length - i) := by
            rw [ei, ← List.drop_eq_getElem_cons jl, List.take_append_drop]
          have ent : w = .tup [(root.preN[root.preN.length - 1 - i]).val, .int ((N.kids (root.preN[root.preN.length - 1 - i]).ch).length : Nat)] := by
            rw [List.getElem?_eq_getElem (by rw [List.length_reverse, plw]; exact lt)] at ew
            rw [← Option.some.inj ew, List.getElem_reverse]
            unfold preW
            rw [List.getElem_map, List.getElem_map]
            simp only [List.length_map]
            rfl
          have dr2 : root.preN.drop (root.preN.length - (i + 1)) = root.preN[root.preN.length - 1 - i] :: root.preN.drop (root.preN.length - i) := by
            rw [show root.preN.length - (i + 1) = root.preN.length - 1 - i by omega, ei, List.drop_eq_getElem_cons jl]
          have nN := N.pre_isN root _ (List.getElem_mem jl)
          have nO := N.pre_ok root ok _ (List.getElem_mem jl)
          have nM := List.getElem_mem jl
          obtain ⟨S', eS⟩ := N.pre_split root sp
          generalize root.preN[root.preN.length - 1 - i] = c at ent nN nO nM eS dr2
          rw [eS, N.dn_pres] at gdn
          subst ent
          rw [w_gT2]
          w_up
          cases c with
          | leaf w => cases nN
          | node w ks =>
            have nO : (N.node w ks).ok h0 := nO
            have ksz : ks.length ≤ 40000 := by
              have z1 := N.pre_sz root _ nM
              have z2 := N.szs_len ks
              have z3 : (N.node w ks).sz = N.szs ks + 1 := rfl
              omega
            have dlen : (N.dn S').length ≤ 40000 := by
              have z1 := N.dn_len S'
              have z2 := congrArg List.length eS
              rw [List.length_append, List.length_drop] at z2
              omega
            refine up_step (B := N.dn S') (fun h'' o l => N.ok_mono o l _ nO) lkk (by omega) old (by omega) (by omega) (by omega) dlen ksz gdn ?_
            intro h'' v5 v8 old2 le2 lt2 lk2 o2 gd2
            refine ⟨_, _, _, _, _, rfl, by omega, ?_, lk2, by omega, by omega, old2, (o2 _ (by omega) (by omega)).trans gw⟩
            rw [gd2, dr2, eS]
            exact congrArg (fun l => some (Ob.lst l)) (N.dn_pre (.node w ks) S' rfl).symm
        · rintro ρ h' ⟨u3, u4, u5, u7, u8, rfl, hi, gdn, lkk, nle, nlt, old, gw⟩
          rw [List.length_reverse, plw, Nat.sub_self, List.drop_zero] at gdn
          have e1 : N.dn root.preN = [root.fro] := by
            have := N.dn_pre root [] rn
            rw [List.append_nil] at this
            exact this
          rw [e1] at gdn
          w_up
          refine wp_eq (ix_lst gdn (atI_0 _ _)) ?_
          rw [List.length_reverse, plw] at nlt
          exact q h' ⟨by omega, by omega, fun i hi _ => (old i (by omega)).trans (gr0.old i (by omega) fun z => z).symm, lkk.trans lk0.symm⟩
      · rw [if_pos (by simp [c])]
        refine down_step dn rs (by omega) l0 c ?_
        intro k' ρ' h'' did' pend' lt dn'
        exact ⟨k', lt, did', pend', dn'⟩
end
end EV
namespace EV
open PySem
section
local macro_rules | `(tactic| w_up) => `(tactic| simp only [w_seq, w_nil, w_rt, w_rtN, w_ex, w_as, w_if, w_par, w_rs, w_au, w_v, w_k, w_aN, w_aC, w_e2, w_tup, w_lst, w_cl, w_cl0, w_bl, w_asB, w_asT, w_tNt, w_tAn, w_tOr, w_tYs, w_eIf, w_eAn, w_eNtT, w_eOrT, w_oS, w_oN, w_eIs, w_eIs2, w_mt, w_mt0, wp_ok, wp_exc, List.getElem?_cons_zero, List.getElem?_cons_succ, List.set_cons_zero, List.set_cons_succ, Option.some.injEq, exists_eq_left', nc_int, nc_bl, nc_tup, nc_ref, nc_non, nc_str, true_and, and_true, List.length_cons, List.length_nil, List.map_cons, List.map_nil, W.bl.injEq, W.int.injEq, Bool.not_true, Bool.not_false, Bool.not_not, Bool.false_eq_true, if_true, if_false, iw_tup, iw_int, iw_bl, iw_str, iw_non, tr_bl, tr_int, tr_tup, tr_non, Bool.or_true, Bool.or_false, Bool.true_or, wipeR, qe_bl, qe_int, qe_non, isN_f, isN_t, beq_self_eq_true, bne_self_eq_false, Bool.false_bne, Bool.true_bne, o_gI, o_gI0, o_gB0, o_mulI, add_ii, o_mulW, o_addW, wd_fold, nc_wd, tr_wd, w_sl, sl_wd, cut_toN, cut_frN, qe_wd, len_wd])
def hdBody : FS := (sSeq (sAs (eMt0 chkL mPop (eV 1)) (gN 2))
      (sSeq (sUn (sFor (iV3 (eV 2)) (gN 3) (sSeq (sIf (asT (eIs Kd.tuple (eV 3))) (sSeq (sEx (eMt chkL mApp (eV 1) (aC (eV 3) aN)))
      sNil) (sSeq (sIf (asT (eIs Kd.list (eV 3))) (sSeq (sRt (eK (.bl true)))
      sNil) sNil)
      sNil))
      sNil)))
      sNil))
def N.isT : N → Bool
  | .node (.tup _) _ => true
  | _ => false
theorem N.hls_app : ∀ a b : List N, N.hls (a ++ b) = (N.hls a || N.hls b)
  | [], b => by show N.hls b = (false || N.hls b); rw [Bool.false_or]
  | k :: a, b => by
    show (k.hl || N.hls (a ++ b)) = ((k.hl || N.hls a) || N.hls b)
    rw [N.hls_app a b, Bool.or_assoc]
theorem N.cases_ok {h : Hpe} {n : N} (o : n.ok h) : (∃ w, n = .leaf w ∧ lfW w = true) ∨ (∃ ks, n = .node (.tup (ks.map N.val)) ks ∧ N.oks h ks) ∨ ∃ i ks, n = .node (.ref i) ks ∧ h.get i = some (.lst (ks.map N.val)) ∧ i < h.nx ∧ N.oks h ks := by
  cases n with
  | leaf w => exact .inl ⟨w, rfl, o⟩
  | node w ks =>
    obtain ⟨a, b⟩ : ((w = .tup (ks.map N.val)) ∨ ∃ i, w = .ref i ∧ h.get i = some (.lst (ks.map N.val)) ∧ i < h.nx) ∧ N.oks h ks := o
    rcases a with rfl | ⟨i, rfl, g, hi⟩
    · exact .inr (.inl ⟨ks, rfl, b⟩)
    · exact .inr (.inr ⟨i, ks, rfl, g, hi, b⟩)
structure Seek (v : W) (root : N) (b : Nat) (h0 : Hpe) (k : Nat) (ρ : Rho) (h : Hpe) (pend : List N) : Prop where
  ρs : ∃ v2 v3, ρ = [some v, some (.ref b), v2, v3]
  gb : h.get b = some (.lst (pend.map N.val))
  nod : ∀ p ∈ pend, p.isT = true
  oks : N.oks h0 pend
  hl : root.hl = N.hls pend
  sz : N.szs pend = k
  le : k ≤ root.sz
  b0 : h0.nx ≤ b
  bl : b < h.nx
  gr : Gr noM 1 h0 h
theorem seek_step {v : W} {root : N} {b : Nat} {h0 : Hpe} {k : Nat} {ρ : Rho} {h : Hpe} {pend : List N} {D : Po} (s : Seek v root b h0 k ρ h pend) (rs : root.sz ≤ 20000) (n0 : h0.nx ≤ 100000000) (l0 : h0.lk = []) (ne : pend ≠ [])
    (q : ∀ k' ρ' h' pend', k' < k → Seek v root b h0 k' ρ' h' pend' → D.nx ρ' h') (r : ∀ h', root.hl = true → Gr noM 1 h0 h' → D.rt (.bl true) h') : (hdBody ρ h).Wp D := by
  obtain ⟨⟨v2, v3, rfl⟩, gb, nod, oks, hl, sz, le, b0, bl, gr⟩ := s
  rcases List.eq_nil_or_concat pend with rfl | ⟨rest, p, ep⟩
  · exact absurd rfl ne
  · rw [List.concat_eq_append] at ep
    subst ep
    have pT := nod p (List.mem_append.mpr (.inr (List.mem_singleton.mpr rfl)))
    have po : p.ok h0 := N.oks_at oks (List.mem_append.mpr (.inr (List.mem_singleton.mpr rfl)))
    have ro : N.oks h0 rest := N.oks_of fun c m => N.oks_at oks (List.mem_append.mpr (.inl m))
    rcases N.cases_ok po with ⟨w, rfl, _⟩ | ⟨ks, rfl, kok⟩ | ⟨i, ks, rfl, _⟩
    · cases pT
    · have lk := gr.lk.trans l0
      have grl := gr.lt
      have gle := gr.le
      rw [N.szs_app] at sz
      have sp : N.szs [N.node (.tup (ks.map N.val)) ks] = N.szs ks + 1 + 0 := rfl
      rw [sp] at sz
      have lnk := N.szs_len ks
      have lnr := N.szs_len rest
      rw [N.hls_app] at hl
      have hl2 : root.hl = (N.hls rest || N.hls ks) := by
        rw [hl]
        show (N.hls rest || (N.hls ks || false)) = _
        rw [Bool.or_false]
      rw [List.map_append] at gb
      unfold hdBody
      w_up
      refine ⟨chk_lst gb, w_pop gb ?_⟩
      have grs : ∀ l : List W, Gr noM 1 h0 (h.set b (.lst l)) := fun l => ⟨gr.le, gr.lt, fun i hi m => by rw [get_set (by omega), if_neg (by omega)]; exact gr.old i hi m, gr.lk⟩
      have gb1 : (h.set b (.lst (rest.map N.val))).get b = some (.lst (rest.map N.val)) := by rw [get_set (by omega), if_pos rfl]
      have gr1 := grs (rest.map N.val)
      have x1 : (h.set b (.lst (rest.map N.val))).nx = h.nx := rfl
      have lk1 : (h.set b (.lst (rest.map N.val))).lk = [] := lk
      generalize h.set b (.lst (rest.map N.val)) = h1 at gb1 gr1 x1 lk1 ⊢
      rw [w_un]
      with_reducible refine w_for (ks.map N.val) (fun i ρ h' => ∃ pn v3, ρ = [some v, some (.ref b), some (.tup (ks.map N.val)), v3] ∧ i ≤ ks.length ∧ h'.get b = some (.lst (pn.map N.val)) ∧ (∀ p ∈ pn, p.isT = true) ∧ N.oks h0 pn ∧ root.hl = (N.hls pn || N.hls (ks.drop i)) ∧ N.szs pn + N.szs (ks.drop i) ≤ N.szs rest + N.szs ks ∧ h'.nx = h.nx ∧ h'.lk = [] ∧ Gr noM 1 h0 h') ?_ ?_ ?_ ?_
      · rw [List.length_map]; omega
      · refine w_iT ?_
        w_up
        exact ⟨rfl, _, rfl, ⟨rest, _, rfl, Nat.zero_le _, gb1, fun p m => nod p (List.mem_append.mpr (.inl m)), ro, hl2, Nat.le_refl _, x1, lk1, gr1⟩, fun i _ h _ => srcT_at _ _ _⟩
      · rintro i u ρ h' eu ⟨pn, v3', rfl, hi, gn, pnT, pno, phl, psz, nx', lk', gr'⟩
        rw [List.getElem?_map] at eu
        cases e : ks[i]? with
        | none => rw [e] at eu; cases eu
        | some n =>
          rw [e] at eu
          cases eu
          have lt := (List.getElem?_eq_some_iff.mp e).1
          have no := N.oks_at kok (List.mem_of_getElem? e)
          have dr : ks.drop i = n :: ks.drop (i + 1) := by
            rw [List.drop_eq_getElem_cons lt]
            exact congrArg (· :: _) (List.getElem?_eq_some_iff.mp e).2
          rw [dr] at phl psz
          have psz : N.szs pn + (n.sz + N.szs (ks.drop (i + 1))) ≤ N.szs rest + N.szs ks := psz
          have phl : root.hl = (N.hls pn || (n.hl || N.hls (ks.drop (i + 1)))) := phl
          have lpn := N.szs_len pn
          rw [w_gN]
          rcases N.cases_ok no with ⟨w, rfl, lw⟩ | ⟨cs, rfl, cok⟩ | ⟨j, cs, rfl, gj, hj, cok⟩
          · have sk : ∃ pn' v3'', [some v, some (.ref b), some (.tup (ks.map N.val)), some (N.leaf w).val] = [some v, some (.ref b), some (.tup (ks.map N.val)), v3''] ∧ i + 1 ≤ ks.length ∧ h'.get b = some (.lst (pn'.map N.val)) ∧ (∀ p ∈ pn', p.isT = true) ∧ N.oks h0 pn' ∧ root.hl = (N.hls pn' || N.hls (ks.drop (i + 1))) ∧ N.szs pn' + N.szs (ks.drop (i + 1)) ≤ N.szs rest + N.szs ks ∧ h'.nx = h.nx ∧ h'.lk = [] ∧ Gr noM 1 h0 h' :=
              ⟨pn, _, rfl, by omega, gn, pnT, pno, by rw [phl]; rfl, by omega, nx', lk', gr'⟩
            cases w with
            | non =>
              dsimp only [N.val] at sk ⊢
              w_up
              exact sk
            | bl c =>
              dsimp only [N.val] at sk ⊢
              w_up
              exact sk
            | int c =>
              dsimp only [N.val] at sk ⊢
              w_up
              exact sk
            | str c =>
              dsimp only [N.val] at sk ⊢
              w_up
              exact sk
            | tup c => cases lw
            | ref c => cases lw
            | df c => cases lw
            | clo c d => cases lw
          · dsimp only [N.val]
            w_up
            refine ⟨chk_lst gn, w_app gn (by rw [List.length_map]; omega) ?_⟩
            refine ⟨pn ++ [.node (.tup (cs.map N.val)) cs], _, rfl, by omega, by rw [get_set (by omega), if_pos rfl, List.map_append]; rfl, ?_, ?_, ?_, ?_, nx', lk', ?_⟩
            · intro p hp
              rcases List.mem_append.mp hp with hp | hp
              · exact pnT p hp
              · rcases List.mem_singleton.mp hp with rfl
                rfl
            · refine N.oks_of fun p hp => ?_
              rcases List.mem_append.mp hp with hp | hp
              · exact N.oks_at pno hp
              · rcases List.mem_singleton.mp hp with rfl
                exact no
            · rw [phl, N.hls_app]
              show _ = ((N.hls pn || ((N.node (.tup (cs.map N.val)) cs).hl || false)) || _)
              rw [Bool.or_false, Bool.or_assoc]
            · rw [N.szs_app]
              show N.szs pn + ((N.node (.tup (cs.map N.val)) cs).sz + 0) + _ ≤ _
              omega
            · exact ⟨gr'.le, gr'.lt, fun i hi m => by rw [get_set (by omega), if_neg (by omega)]; exact gr'.old i hi m, gr'.lk⟩
          · have gj' := (gr'.old j hj fun z => z).trans gj
            dsimp only [N.val]
            w_up
            refine ⟨_, iw_lst gj', ?_⟩
            w_up
            refine ⟨_, iw_lst gj', ?_⟩
            w_up
            refine r _ ?_ ?_
            · rw [phl]
              show (N.hls pn || (true || _)) = true
              simp
            · rw [unl_nil lk1 lk']
              exact gr'
      · rintro ρ h' ⟨pn, v3', rfl, hi, gn, pnT, pno, phl, psz, nx', lk', gr'⟩
        rw [List.length_map, List.drop_length] at phl psz
        have phl : root.hl = (N.hls pn || false) := phl
        have psz : N.szs pn + 0 ≤ N.szs rest + N.szs ks := psz
        w_up
        rw [unl_nil lk1 lk']
        exact q (N.szs pn) _ _ pn (by omega) ⟨⟨_, _, rfl⟩, gn, pnT, pno, by rw [phl, Bool.or_false], rfl, by omega, b0, by omega, gr'⟩
    · cases pT
end
end EV
namespace EV
open PySem
section
local macro_rules | `(tactic| w_up) => `(tactic| simp only [w_seq, w_nil, w_rt, w_rtN, w_ex, w_as, w_if, w_par, w_rs, w_au, w_v, w_k, w_aN, w_aC, w_e2, w_tup, w_lst, w_cl, w_cl0, w_bl, w_asB, w_asT, w_tNt, w_tAn, w_tOr, w_tYs, w_eIf, w_eAn, w_eNtT, w_eOrT, w_oS, w_oN, w_eIs, w_eIs2, w_mt, w_mt0, wp_ok, wp_exc, List.getElem?_cons_zero, List.getElem?_cons_succ, List.set_cons_zero, List.set_cons_succ, Option.some.injEq, exists_eq_left', nc_int, nc_bl, nc_tup, nc_ref, nc_non, nc_str, true_and, and_true, List.length_cons, List.length_nil, List.map_cons, List.map_nil, W.bl.injEq, W.int.injEq, Bool.not_true, Bool.not_false, Bool.not_not, Bool.false_eq_true, if_true, if_false, iw_tup, iw_int, iw_bl, iw_str, iw_non, tr_bl, tr_int, tr_tup, tr_non, Bool.or_true, Bool.or_false, Bool.true_or, wipeR, qe_bl, qe_int, qe_non, isN_f, isN_t, beq_self_eq_true, bne_self_eq_false, Bool.false_bne, Bool.true_bne, o_gI, o_gI0, o_gB0, o_mulI, add_ii, o_mulW, o_addW, wd_fold, nc_wd, tr_wd, w_sl, sl_wd, cut_toN, cut_frN, qe_wd, len_wd])
theorem uHold_eq : uHold = (sSeq (sIf (tNt (asT (eIs Kd.tuple (eV 0)))) (sSeq (sRt (eIs Kd.list (eV 0)))
      sNil) sNil)
      (sSeq (sAs (eLst (aC (eV 0) aN)) (gN 1))
      (sSeq (sWh (asT (eV 1)) hdBody)
      (sSeq (sRt (eK (.bl false)))
      sNil)))) := rfl
theorem hold_n {root : N} {h : Hpe} (ok : root.ok h) (rs : root.sz ≤ 20000) (n0 : h.nx ≤ 100000000) (l0 : h.lk = []) : (runB 4 uHold [root.val] h).Wp (fun u h' => u = .bl root.hl ∧ Gr noM 1 h h') (fun _ _ => False) := by
  rw [run_eq, uHold_eq]
  show ((sSeq _ _) [some root.val, none, none, none] h).Wp _
  rcases N.cases_ok ok with ⟨w, rfl, lw⟩ | ⟨ks, rfl, kok⟩ | ⟨i, ks, rfl, g, hi, kok⟩
  · cases w with
    | non => dsimp only [N.val]; w_up; exact ⟨rfl, Gr.refl⟩
    | bl c => dsimp only [N.val]; w_up; exact ⟨rfl, Gr.refl⟩
    | int c => dsimp only [N.val]; w_up; exact ⟨rfl, Gr.refl⟩
    | str c => dsimp only [N.val]; w_up; exact ⟨rfl, Gr.refl⟩
    | tup c => cases lw
    | ref c => cases lw
    | df c => cases lw
    | clo c d => cases lw
  · dsimp only [N.val]
    w_up
    refine ⟨rfl, by omega, ?_⟩
    have gb := new_get (h := h) (.lst [.tup (ks.map N.val)]) (by omega)
    have g1 : Gr noM 1 h (h.new (.lst [.tup (ks.map N.val)])) := Gr.new _
    have x1 : (h.new (.lst [.tup (ks.map N.val)])).nx = h.nx + 1 := rfl
    generalize h.new (.lst [.tup (ks.map N.val)]) = h1 at gb g1 x1 ⊢
    have start : Seek (.tup (ks.map N.val)) (.node (.tup (ks.map N.val)) ks) h.nx h (N.node (.tup (ks.map N.val)) ks).sz [some (.tup (ks.map N.val)), some (.ref h.nx), none, none] h1 [.node (.tup (ks.map N.val)) ks] := by
      refine ⟨⟨_, _, rfl⟩, gb, ?_, ⟨ok, trivial⟩, ?_, ?_, Nat.le_refl _, Nat.le_refl _, by omega, g1⟩
      · intro p hp
        rcases List.mem_singleton.mp hp with rfl
        rfl
      · show _ = (_ || false)
        rw [Bool.or_false]
      · show _ + 0 = _
        omega
    with_reducible refine w_wh (fun k ρ h' => ∃ pend, Seek (.tup (ks.map N.val)) (.node (.tup (ks.map N.val)) ks) h.nx h k ρ h' pend) (N.node (.tup (ks.map N.val)) ks).sz ?_ ?_ ?_
    · omega
    · exact ⟨_, start⟩
    · rintro k ρ h' ⟨pend, s⟩
      obtain ⟨v2, v3, er⟩ := s.ρs
      have gb' := s.gb
      rw [w_asT]
      refine Res.Wp.mono (Q := fun w hh => w = .ref h.nx ∧ hh = h') (E := fun _ _ => False) ?_ ?_ (fun _ _ z => z.elim)
      · rw [er]
        w_up
      · rintro w hh ⟨rfl, rfl⟩
        refine ⟨_, tr_lst gb', ?_⟩
        by_cases c : pend = []
        · subst c
          rw [if_neg (by simp)]
          refine ⟨?_, s.gr⟩
          rw [s.hl]
          rfl
        · rw [if_pos (by simp [c])]
          refine seek_step s rs n0 l0 c (fun k' ρ' h'' pend' lt s' => ⟨k', lt, pend', s'⟩) ?_
          intro h'' hl gr
          refine ⟨?_, gr⟩
          rw [hl]
  · dsimp only [N.val]
    w_up
    refine ⟨_, iw_lst g, ?_⟩
    w_up
    refine ⟨_, iw_lst g, ?_⟩
    exact ⟨rfl, Gr.refl⟩
mutual
theorem N.tup_of {h : Hpe} : ∀ n : N, n.ok h → n.hl = false → n.val = n.fro
  | .leaf w, _, _ => rfl
  | .node w ks, o, hl => by
    obtain ⟨a, b⟩ : ((w = .tup (ks.map N.val)) ∨ ∃ i, w = .ref i ∧ h.get i = some (.lst (ks.map N.val)) ∧ i < h.nx) ∧ N.oks h ks := o
    rcases a with rfl | ⟨i, rfl, g, hi⟩
    · show W.tup (ks.map N.val) = W.tup (N.fros ks)
      rw [N.tups_of ks b hl]
    · cases hl
theorem N.tups_of {h : Hpe} : ∀ ks : List N, N.oks h ks → N.hls ks = false → ks.map N.val = N.fros ks
  | [], _, _ => rfl
  | k :: ks, o, hl => by
    obtain ⟨a, b⟩ : k.ok h ∧ N.oks h ks := o
    have hl : (k.hl || N.hls ks) = false := hl
    rw [Bool.or_eq_false_iff] at hl
    show k.val :: ks.map N.val = k.fro :: N.fros ks
    rw [N.tup_of k a hl.1, N.tups_of ks b hl.2]
end
mutual
theorem N.nil_of {h : Hpe} : ∀ n : N, n.ok h → noRef n.val = true → n.ok Hpe.nil
  | .leaf w, o, _ => o
  | .node w ks, o, nr => by
    obtain ⟨a, b⟩ : ((w = .tup (ks.map N.val)) ∨ ∃ i, w = .ref i ∧ h.get i = some (.lst (ks.map N.val)) ∧ i < h.nx) ∧ N.oks h ks := o
    rcases a with rfl | ⟨i, rfl, g, hi⟩
    · exact ⟨.inl rfl, N.nils_of ks b nr⟩
    · cases nr
theorem N.nils_of {h : Hpe} : ∀ ks : List N, N.oks h ks → noRefs (ks.map N.val) = true → N.oks Hpe.nil ks
  | [], _, _ => trivial
  | k :: ks, o, nr => by
    obtain ⟨a, b⟩ : k.ok h ∧ N.oks h ks := o
    rw [List.map_cons, noRefs_c] at nr
    cases q : noRef k.val <;> rw [q] at nr
    · cases nr
    · exact ⟨N.nil_of k a q, N.nils_of ks b nr⟩
end
mutual
theorem N.fro_nr {h : Hpe} : ∀ n : N, n.ok h → noRef n.fro = true
  | .leaf w, o => by
    have o : lfW w = true := o
    cases w <;> first | rfl | cases o
  | .node w ks, o => by
    show noRef (.tup (N.fros ks)) = true
    rw [noRef_t]
    exact N.fros_nr ks (show _ ∧ N.oks h ks from o).2
theorem N.fros_nr {h : Hpe} : ∀ ks : List N, N.oks h ks → noRefs (N.fros ks) = true
  | [], _ => rfl
  | k :: ks, o => by
    obtain ⟨a, b⟩ : k.ok h ∧ N.oks h ks := o
    show noRefs (k.fro :: N.fros ks) = true
    rw [noRefs_c, N.fro_nr k a, N.fros_nr ks b]
    rfl
end
structure FzAt (C0 C1 : Nat → List W → Hpe → Res W) : Prop where
  c0 : ∀ d ws h, C0 (d + 1) ws h = frm (runB 9 (uFz (C1 d))) ws h
  c1 : ∀ d ws h, C1 (d + 1) ws h = frm (runB 4 uHold) ws h
theorem wp_ex {r : Res W} {Q : W → Hpe → Prop} (h : r.Wp Q (fun _ _ => False)) : ∃ w h', r = .ok w h' ∧ Q w h' := by
  cases r with
  | ok w h' => exact ⟨w, h', rfl, h⟩
  | ex x h' => exact h.elim
  | no => exact h.elim
theorem hold_call {C0 C1 : Nat → List W → Hpe → Res W} (F : FzAt C0 C1) {root : N} {h : Hpe} (ok : root.ok h) (rs : root.sz ≤ 20000) (n0 : h.nx ≤ 100000000) (l0 : h.lk = []) (d : Nat) :
    ∃ h', C1 (d + 1) [root.val] h = .ok (.bl root.hl) h' ∧ Gr noM 1 h h' ∧ (noRef root.val = true → h' = h) := by
  rw [F.c1]
  cases c : noRef root.val with
  | true =>
    have nr : noRefs [root.val] = true := by rw [noRefs_c, c]; rfl
    exact ⟨h, frm_is nr rfl ((hold_n (N.nil_of root ok c) rs (Nat.zero_le _) rfl).mono (fun _ _ q => q.1) (fun _ _ q => q)) h, Gr.refl, fun _ => rfl⟩
  | false =>
    obtain ⟨w, h', e, rfl, gr⟩ := wp_ex (hold_n ok rs n0 l0)
    refine ⟨h', ?_, gr, fun z => by cases z⟩
    unfold frm
    rw [noRefs_c, c]
    exact e
theorem fz_call {C0 C1 : Nat → List W → Hpe → Res W} (F : FzAt C0 C1) {root : N} {h : Hpe} (ok : root.ok h) (rs : root.sz ≤ 20000) (n0 : h.nx ≤ 9000000) (l0 : h.lk = []) (d : Nat) :
    ∃ h', C0 (d + 2) [root.val] h = .ok root.fro h' ∧ Gr noM 70001 h h' ∧ (noRef root.val = true → h' = h) := by
  obtain ⟨_, _, _, _, _, nv⟩ := N.inst_l ok
  have body : ∀ h, root.ok h → h.nx ≤ 9000000 → h.lk = [] → (runB 9 (uFz (C1 (d + 1))) [root.val] h).Wp (fun w h' => w = root.fro ∧ Gr noM 70001 h h') (fun _ _ => False) := by
    intro h ok n0 l0
    obtain ⟨h1, e1, gr1, _⟩ := hold_call F ok rs (by omega) l0 d
    rw [run_eq]
    show (uFz (C1 (d + 1)) [some root.val, none, none, none, none, none, none, none, none] h).Wp _
    unfold uFz
    rw [w_seq]
    w_up
    refine ⟨nv, wp_eq e1 ?_⟩
    cases c : root.hl with
    | false =>
      w_up
      exact ⟨nv, N.tup_of root ok c, gr1.mono (by omega) fun _ _ z => z⟩
    | true =>
      w_up
      have ok1 : root.ok h1 := N.ok_mono (fun i hi => gr1.old i hi fun z => z) gr1.le _ ok
      have rn : root.isN = true := by
        cases root with
        | leaf w => cases c
        | node w ks => rfl
      have x1 := gr1.lt
      have z := fz_walk (v := root.val) (root := root) (h0 := h1) (h := h1) (D := ⟨fun _ h' => (W.non = root.fro ∧ Gr noM 70001 h h'), fun w h' => w = root.fro ∧ Gr noM 70001 h h', fun _ _ => False, fun _ _ => False, fun _ _ _ => False⟩) rfl rn ok1 rs (by omega) Gr.refl (gr1.lk.trans l0) (fun h' gr => ⟨rfl, (gr1.trans gr).mono (by omega) fun _ _ z => z⟩)
      revert z
      w_up
      exact fun z => z
  rw [F.c0]
  cases c : noRef root.val with
  | true =>
    have nr : noRefs [root.val] = true := by rw [noRefs_c, c]; rfl
    exact ⟨h, frm_is nr (N.fro_nr root ok) ((body _ (N.nil_of root ok c) (Nat.zero_le _) rfl).mono (fun _ _ q => q.1) (fun _ _ q => q)) h, Gr.refl, fun _ => rfl⟩
  | false =>
    obtain ⟨w, h', e, rfl, gr⟩ := wp_ex (body h ok n0 l0)
    refine ⟨h', ?_, gr, fun z => by cases z⟩
    unfold frm
    rw [noRefs_c, c]
    exact e
end
end EV
namespace EV
open PySem PySem.Spec PyProof.Rows L2
mutual
def dD : W → PyData
  | .non => .none
  | .bl b => .bool b
  | .int i => .int i
  | .str x => .str x
  | .tup ws => .tuple (dDs ws)
  | _ => .none
def dDs : List W → List PyData
  | [] => []
  | w :: ws => dD w :: dDs ws
end
mutual
def dpW : W → Nat
  | .tup ws => dpWs ws + 1
  | _ => 0
def dpWs : List W → Nat
  | [] => 0
  | w :: ws => max (dpW w) (dpWs ws)
end
mutual
def qdat : W → Bool
  | .non => true
  | .int _ => true
  | .str x => SeqAt.shaped (.str x)
  | .tup ws => qdats ws
  | _ => false
def qdats : List W → Bool
  | [] => true
  | w :: ws => qdat w && qdats ws
end
theorem toD_dat (h : Hpe) : ∀ (k : Nat) (w : W), qdat w = true → dpW w < k → toD k h w = some (dD w)
  | 0, w, _, l => absurd l (Nat.not_lt_zero _)
  | k + 1, w, q, l => by
    cases w with
    | non => rfl
    | bl b => cases q
    | int i => rfl
    | str x => rfl
    | tup ws =>
      have l : dpWs ws + 1 < k + 1 := l
      have z : ∀ vs : List W, qdats vs = true → dpWs vs < k → mapO (toD k h) vs = some (dDs vs) := by
        intro vs
        induction vs with
        | nil => intro _ _; rfl
        | cons v vs ih =>
          intro q l
          have q : (qdat v && qdats vs) = true := q
          obtain ⟨q1, q2⟩ := (Bool.and_eq_true _ _).mp q
          have l : max (dpW v) (dpWs vs) < k := l
          rw [mapO, toD_dat h k v q1 (by omega), ih q2 (by omega)]
          rfl
      show (match mapO (toD k h) ws with | none => none | some ds => some (PyData.tuple ds)) = _
      rw [z ws q (by omega)]
      rfl
    | ref n => cases q
    | df n => cases q
    | clo a b => cases q
mutual
theorem lay_dat : ∀ w : W, qdat w = true → PyData.canLay0 (dD w) = true
  | .non, _ => by simp [dD, PyData.canLay0]
  | .int _, _ => by simp [dD, PyData.canLay0]
  | .str x, q => by
    have q : SeqAt.shaped (.str x) = true := q
    unfold SeqAt.shaped at q
    exact ((Bool.and_eq_true _ _).mp q).1
  | .tup ws, q => by
    simp only [dD, PyData.canLay0]
    exact lay_dats ws q
  | .bl _, q => by cases q
  | .ref _, q => by cases q
  | .df _, q => by cases q
  | .clo _ _, q => by cases q
theorem lay_dats : ∀ ws : List W, qdats ws = true → PyData.canLayAll0 (dDs ws) = true
  | [], _ => by simp [dDs, PyData.canLayAll0]
  | w :: ws, q => by
    have q : (qdat w && qdats ws) = true := q
    obtain ⟨q1, q2⟩ := (Bool.and_eq_true _ _).mp q
    simp only [dDs, PyData.canLayAll0, lay_dat w q1, lay_dats ws q2, Bool.and_self]
end
mutual
theorem dep_dat : ∀ w : W, qdat w = true → PyData.depth (dD w) = dpW w
  | .non, _ => by simp [dD, PyData.depth, dpW]
  | .int _, _ => by simp [dD, PyData.depth, dpW]
  | .str x, q => by simp [dD, PyData.depth, dpW]
  | .tup ws, q => by
    simp only [dD, PyData.depth, dpW]
    rw [dep_dats ws q]
  | .bl _, q => by cases q
  | .ref _, q => by cases q
  | .df _, q => by cases q
  | .clo _ _, q => by cases q
theorem dep_dats : ∀ ws : List W, qdats ws = true → PyData.depthAll (dDs ws) = dpWs ws
  | [], _ => by simp [dDs, PyData.depthAll, dpWs]
  | w :: ws, q => by
    have q : (qdat w && qdats ws) = true := q
    obtain ⟨q1, q2⟩ := (Bool.and_eq_true _ _).mp q
    simp only [dDs, PyData.depthAll, dpWs, dep_dat w q1, dep_dats ws q2]
end
mutual
theorem eqv_dat : ∀ a b : W, qdat a = true → qdat b = true → (PyData.eqv (dD a) (dD b) = true ↔ a = b)
  | .non, b, qa, qb => by
    cases b <;> first | (cases qb; done) | simp [dD, PyData.eqv]
  | .int i, b, qa, qb => by
    cases b <;> first | (cases qb; done) | simp [dD, PyData.eqv]
  | .str x, b, qa, qb => by
    cases b <;> first | (cases qb; done) | simp [dD, PyData.eqv]
  | .tup ws, b, qa, qb => by
    cases b with
    | tup us =>
      simp only [dD, PyData.eqv]
      rw [eqv_dats ws us qa qb]
      exact ⟨fun e => by rw [e], fun e => by cases e; rfl⟩
    | non => simp [dD, PyData.eqv]
    | int i => simp [dD, PyData.eqv]
    | str x => simp [dD, PyData.eqv]
    | bl c => cases qb
    | ref n => cases qb
    | df n => cases qb
    | clo c d => cases qb
  | .bl _, b, qa, qb => by cases qa
  | .ref _, b, qa, qb => by cases qa
  | .df _, b, qa, qb => by cases qa
  | .clo _ _, b, qa, qb => by cases qa
theorem eqv_dats : ∀ a b : List W, qdats a = true → qdats b = true → (PyData.eqvAll (dDs a) (dDs b) = true ↔ a = b)
  | [], [], _, _ => by simp [dDs, PyData.eqvAll]
  | [], _ :: _, _, _ => by simp [dDs, PyData.eqvAll]
  | _ :: _, [], _, _ => by simp [dDs, PyData.eqvAll]
  | a :: as, b :: bs, qa, qb => by
    have qa : (qdat a && qdats as) = true := qa
    have qb : (qdat b && qdats bs) = true := qb
    obtain ⟨a1, a2⟩ := (Bool.and_eq_true _ _).mp qa
    obtain ⟨b1, b2⟩ := (Bool.and_eq_true _ _).mp qb
    simp only [dDs, PyData.eqvAll, Bool.and_eq_true]
    rw [eqv_dat a b a1 b1, eqv_dats as bs a2 b2]
    exact ⟨fun ⟨x, y⟩ => by rw [x, y], fun e => by cases e; exact ⟨rfl, rfl⟩⟩
end
noncomputable def sameW (a b : W) : Bool := @decide (a = b) (Classical.propDecidable _)
theorem sameW_iff {a b : W} : sameW a b = true ↔ a = b := by
  unfold sameW
  exact @decide_eq_true_iff _ (Classical.propDecidable _)
section
variable {ρ : Rho} {h : Hpe} {Q : W → Hpe → Prop} {QL : List W → Hpe → Prop} {E : Exc → Hpe → Prop} {fs : FA} {T : Nat → List W → Hpe → Res W} {i k : Nat}
theorem w_clV : (eClV i T fs ρ h).Wp Q E = ∃ w, ρ[i]? = some (some w) ∧ match w with
    | .df k => (fs ρ h).Wp (fun ws h1 => (T k ws h1).Wp Q E) E
    | .clo k caps => (fs ρ h).Wp (fun ws h1 => (T k (ws ++ caps) h1).Wp Q E) E
    | _ => False := by
  unfold eClV
  cases e : ρ[i]? with
  | none => simp [Res.Wp]
  | some o =>
    cases o with
    | none => simp [Res.Wp]
    | some w =>
      simp only [Option.some.injEq, exists_eq_left']
      cases w <;> first | exact wp_bind | rfl
theorem w_aL {f : FL} {ws : List W} (e : f ρ h = some ws) : (aL f ρ h).Wp QL E = QL ws h := by
  unfold aL
  rw [e]
  rfl
theorem arG_eq {n : Nat} {g : List W → Hpe → Res W} {ws : List W} (e : ws.length = n) : arG n g ws h = g ws h := by
  unfold arG
  rw [e, Nat.beq_refl]
  rfl
end
mutual
def lsN : W → Nat
  | .tup ws => lsNs ws + 1
  | _ => 0
def lsNs : List W → Nat
  | [] => 0
  | w :: ws => lsN w + lsNs ws
end
def uLists (g : List W → Hpe → Res W) : FS :=
    (sSeq (sUn (sRt (eIf (asT (eIs2 Kd.list Kd.tuple (eV 0))) (eComp (.lst []) (iV3 (eV 0)) (gN 1) tYs (moreL (eCl 1 g (aC (eV 1) aN))) [1]) (eV 0))))
      sNil)
end EV
namespace EV
open PySem
mutual
def N.lo (lo : Nat) : N → Prop
  | .leaf _ => True
  | .node w ks => (∀ i, w = .ref i → lo ≤ i) ∧ N.los lo ks
def N.los (lo : Nat) : List N → Prop
  | [] => True
  | k :: ks => k.lo lo ∧ N.los lo ks
end
mutual
theorem N.lo_mono {lo : Nat} {h h' : Hpe} (o : ∀ i, lo ≤ i → i < h.nx → h'.get i = h.get i) (le : h.nx ≤ h'.nx) : ∀ n : N, n.ok h → n.lo lo → n.ok h'
  | .leaf w, q, _ => q
  | .node w ks, q, l => by
    obtain ⟨a, b⟩ : ((w = .tup (ks.map N.val)) ∨ ∃ i, w = .ref i ∧ h.get i = some (.lst (ks.map N.val)) ∧ i < h.nx) ∧ N.oks h ks := q
    obtain ⟨l1, l2⟩ : (∀ i, w = .ref i → lo ≤ i) ∧ N.los lo ks := l
    refine ⟨?_, N.los_mono o le ks b l2⟩
    rcases a with a | ⟨i, e, g, hi⟩
    · exact .inl a
    · exact .inr ⟨i, e, (o i (l1 i e) hi).trans g, Nat.lt_of_lt_of_le hi le⟩
theorem N.los_mono {lo : Nat} {h h' : Hpe} (o : ∀ i, lo ≤ i → i < h.nx → h'.get i = h.get i) (le : h.nx ≤ h'.nx) : ∀ ks : List N, N.oks h ks → N.los lo ks → N.oks h' ks
  | [], _, _ => trivial
  | k :: ks, q, l => by
    obtain ⟨a, b⟩ : k.ok h ∧ N.oks h ks := q
    obtain ⟨l1, l2⟩ : k.lo lo ∧ N.los lo ks := l
    exact ⟨N.lo_mono o le k a l1, N.los_mono o le ks b l2⟩
end
mutual
theorem N.lo_le {lo lo' : Nat} (le : lo' ≤ lo) : ∀ n : N, n.lo lo → n.lo lo'
  | .leaf w, _ => trivial
  | .node w ks, l => by
    obtain ⟨l1, l2⟩ : (∀ i, w = .ref i → lo ≤ i) ∧ N.los lo ks := l
    exact ⟨fun i e => Nat.le_trans le (l1 i e), N.los_le le ks l2⟩
theorem N.los_le {lo lo' : Nat} (le : lo' ≤ lo) : ∀ ks : List N, N.los lo ks → N.los lo' ks
  | [], _ => trivial
  | k :: ks, l => by
    obtain ⟨l1, l2⟩ : k.lo lo ∧ N.los lo ks := l
    exact ⟨N.lo_le le k l1, N.los_le le ks l2⟩
end
theorem N.los_app {lo : Nat} : ∀ {a b : List N}, N.los lo a → N.los lo b → N.los lo (a ++ b)
  | [], b, _, l => l
  | k :: a, b, l, l' => by
    obtain ⟨l1, l2⟩ : k.lo lo ∧ N.los lo a := l
    exact ⟨l1, N.los_app l2 l'⟩
theorem N.oks_app {h : Hpe} : ∀ {a b : List N}, N.oks h a → N.oks h b → N.oks h (a ++ b)
  | [], b, _, l => l
  | k :: a, b, l, l' => by
    obtain ⟨l1, l2⟩ : k.ok h ∧ N.oks h a := l
    exact ⟨l1, N.oks_app l2 l'⟩
theorem lsNs_app : ∀ a b : List W, lsNs (a ++ b) = lsNs a + lsNs b
  | [], b => (Nat.zero_add _).symm
  | w :: a, b => by
    show lsN w + lsNs (a ++ b) = lsN w + lsNs a + lsNs b
    rw [lsNs_app a b, Nat.add_assoc]
theorem lsNs_take : ∀ (ws : List W) (i : Nat), lsNs (ws.take i) ≤ lsNs ws
  | [], i => by simp
  | w :: ws, 0 => Nat.zero_le _
  | w :: ws, i + 1 => by
    have := lsNs_take ws i
    show lsN w + lsNs (ws.take i) ≤ lsN w + lsNs ws
    omega
theorem dpWs_at : ∀ {ws : List W} {i : Nat} {w : W}, ws[i]? = some w → dpW w ≤ dpWs ws
  | [], _, _, e => by simp at e
  | v :: ws, 0, w, e => by
    simp at e
    subst e
    show dpW v ≤ max (dpW v) (dpWs ws)
    omega
  | v :: ws, i + 1, w, e => by
    have := dpWs_at (ws := ws) (i := i) (w := w) (by simpa using e)
    show dpW w ≤ max (dpW v) (dpWs ws)
    omega
section
local macro_rules | `(tactic| w_up) => `(tactic| simp only [w_seq, w_nil, w_rt, w_rtN, w_ex, w_as, w_if, w_par, w_rs, w_au, w_v, w_k, w_aN, w_aC, w_e2, w_tup, w_lst, w_cl, w_cl0, w_bl, w_asB, w_asT, w_tNt, w_tAn, w_tOr, w_tYs, w_eIf, w_eAn, w_eNtT, w_eOrT, w_oS, w_oN, w_eIs, w_eIs2, w_mt, w_mt0, wp_ok, wp_exc, List.getElem?_cons_zero, List.getElem?_cons_succ, List.set_cons_zero, List.set_cons_succ, Option.some.injEq, exists_eq_left', nc_int, nc_bl, nc_tup, nc_ref, nc_non, nc_str, true_and, and_true, List.length_cons, List.length_nil, List.map_cons, List.map_nil, W.bl.injEq, W.int.injEq, Bool.not_true, Bool.not_false, Bool.not_not, Bool.false_eq_true, if_true, if_false, iw_tup, iw_int, iw_bl, iw_str, iw_non, tr_bl, tr_int, tr_tup, tr_non, Bool.or_true, Bool.or_false, Bool.true_or, wipeR, qe_bl, qe_int, qe_non, isN_f, isN_t, beq_self_eq_true, bne_self_eq_false, Bool.false_bne, Bool.true_bne, o_gI, o_gI0, o_gB0, o_mulI, add_ii, o_mulW, o_addW, wd_fold, nc_wd, tr_wd, w_sl, sl_wd, cut_toN, cut_frN, qe_wd, len_wd])
structure Made (w u : W) (lo : Nat) (h : Hpe) : Prop where
  ex : ∃ n : N, n.val = u ∧ n.ok h ∧ n.lo lo ∧ n.fro = w ∧ n.sz = tn w
theorem lists_ok {C : Nat → List W → Hpe → Res W} (hC : ∀ d ws h, C (d + 1) ws h = runB 2 (uLists (C d)) ws h) : ∀ (d : Nat) (w : W) (h : Hpe) (d' : Nat), dpW w < d → d ≤ d' → dat w = true → tn w ≤ 20000 → h.nx + lsN w ≤ 100000000 → h.lk = [] →
    ∃ u h', C d' [w] h = .ok u h' ∧ Gr noM (lsN w) h h' ∧ Made w u h.nx h' ∧ noClo u = true := by
  intro d
  induction d with
  | zero => intro w h d' l; exact absurd l (Nat.not_lt_zero _)
  | succ d ih =>
    intro w h d' dl hd da tl nl lk
    obtain ⟨e, rfl⟩ : ∃ e, d' = e + 1 := ⟨d' - 1, by omega⟩
    rw [hC]
    have leaf : ∀ w : W, lfW w = true → tn w = 1 → noClo w = true → Made w w h.nx h := fun w l t _ => ⟨.leaf w, rfl, l, trivial, rfl, t.symm⟩
    have z : (runB 2 (uLists (C e)) [w] h).Wp (fun u h' => Gr noM (lsN w) h h' ∧ Made w u h.nx h' ∧ noClo u = true) (fun _ _ => False) := by
      rw [run_eq]
      show (uLists (C e) [some w, none] h).Wp _
      unfold uLists
      rw [w_seq, w_un]
      cases w with
      | non => w_up; rw [unl_nil lk lk]; exact ⟨Gr.refl, leaf _ rfl rfl rfl⟩
      | bl c => w_up; rw [unl_nil lk lk]; exact ⟨Gr.refl, leaf _ rfl rfl rfl⟩
      | int c => w_up; rw [unl_nil lk lk]; exact ⟨Gr.refl, leaf _ rfl rfl rfl⟩
      | str c => w_up; rw [unl_nil lk lk]; exact ⟨Gr.refl, leaf _ rfl rfl rfl⟩
      | ref c => cases da
      | df c => cases da
      | clo c d => cases da
      | tup ws =>
        have da : dats ws = true := da
        have nl : h.nx + (lsNs ws + 1) ≤ 100000000 := nl
        have tl : tns ws + 1 ≤ 20000 := tl
        have dl : dpWs ws + 1 < d + 1 := dl
        have lt := tns_len ws
        w_up
        with_reducible refine w_compL ws (fun k i ys h' => ∃ ns : List N, k = h.nx ∧ h.nx < h'.nx ∧ i ≤ ws.length ∧ ys = ns.map N.val ∧ N.fros ns = ws.take i ∧ N.oks h' ns ∧ N.los (h.nx + 1) ns ∧ N.szs ns = tns (ws.take i) ∧ h'.get k = some (.lst ys) ∧ Gr noM (1 + lsNs (ws.take i)) h h') ?_ ?_ ?_ ?_
        · omega
        · refine w_iT ?_
          w_up
          refine ⟨_, rfl, ⟨by omega, [], Nat.lt_succ_self _, Nat.zero_le _, rfl, rfl, trivial, trivial, rfl, new_get _ (by omega), Gr.new _⟩, fun _ i _ h _ => srcT_at _ _ _⟩
        · rintro k i u ys h' eu ⟨ns, rfl, kn, hi, rfl, fr, oks, los, szs, gk, gr⟩ _
          have dv := dats_at da eu
          have dpv := dpWs_at eu
          have i1 := (List.getElem?_eq_some_iff.mp eu).1
          have tk : ws.take (i + 1) = ws.take i ++ [u] := by rw [List.take_add_one, eu]; rfl
          have lt1 := lsNs_take ws (i + 1)
          rw [tk, lsNs_app] at lt1
          have lt1 : lsNs (ws.take i) + (lsN u + 0) ≤ lsNs ws := lt1
          have tu : tn u ≤ 20000 := by
            have z := tns_app (ws.take i) (ws.drop i)
            rw [List.take_append_drop, List.drop_eq_getElem_cons i1] at z
            have z2 : tns (ws[i] :: ws.drop (i + 1)) = tn ws[i] + tns (ws.drop (i + 1)) := rfl
            rw [show ws[i] = u from (List.getElem?_eq_some_iff.mp eu).2] at z2 z
            omega
          have nu : noClo u = true := by cases u <;> first | rfl | cases dv
          have grl := gr.lt
          obtain ⟨x, h2, e2, gr2, ⟨n, nv, nok, nlo, nfr, nsz⟩, nc⟩ := ih u h' e (by omega) (by omega) dv tu (by omega) (gr.lk.trans lk)
          rw [w_gN]
          w_up
          refine ⟨nu, wp_eq e2 ?_⟩
          have gk2 := (gr2.old _ kn fun z => z).trans gk
          have l2 := gr2.lt
          have le2 := gr2.le
          refine ⟨gk2, ns ++ [n], by show h.nx < h2.nx; omega, by omega, by rw [List.map_append, ← nv]; rfl, ?_, ?_, ?_, ?_, by rw [get_set (by omega), if_pos rfl], ?_⟩
          · rw [N.fros_map, List.map_append, ← N.fros_map, fr, tk]
            show _ ++ [n.fro] = _
            rw [nfr]
          · refine N.oks_app ?_ ⟨?_, trivial⟩
            · exact N.los_mono (h' := h2.set h.nx (.lst (ns.map N.val ++ [x]))) (fun j jl jh => by rw [get_set (by omega), if_neg (by omega)]; exact gr2.old j jh fun z => z) le2 ns oks los
            · exact N.lo_mono (h := h2) (h' := h2.set h.nx (.lst (ns.map N.val ++ [x]))) (lo := h'.nx) (fun j jl jh => by rw [get_set (by omega), if_neg (by omega)]) (Nat.le_refl _) n nok nlo
          · exact N.los_app los ⟨N.lo_le (by omega) n nlo, trivial⟩
          · rw [N.szs_app, szs, tk, tns_app]
            show _ + (n.sz + 0) = _ + (tn u + 0)
            rw [nsz]
          · rw [tk, lsNs_app]
            have g3 := gr.trans gr2
            exact ⟨g3.le, by show h2.nx ≤ h.nx + (1 + (lsNs (ws.take i) + (lsN u + 0))); have := g3.lt; omega, fun j hj m => by rw [get_set (by omega), if_neg (by omega)]; exact g3.old j hj m, g3.lk⟩
        · rintro k ys h' ⟨ns, rfl, kn, hi, rfl, fr, oks, los, szs, gk, gr⟩
          rw [List.take_length] at fr szs gr
          have lk' := gr.lk.trans lk
          show Gr noM _ h (unl h h') ∧ Made _ _ _ (unl h h') ∧ _
          rw [unl_nil lk lk']
          refine ⟨gr.mono (by show 1 + lsNs ws ≤ lsNs ws + 1; omega) fun _ _ z => z, ⟨.node (.ref h.nx) ns, rfl, ⟨.inr ⟨h.nx, rfl, gk, kn⟩, oks⟩, ⟨fun i e => by cases e; exact Nat.le_refl _, N.los_le (Nat.le_succ _) ns los⟩, ?_, ?_⟩, rfl⟩
          · show W.tup (N.fros ns) = _
            rw [fr]
          · show N.szs ns + 1 = tns ws + 1
            rw [szs]
    obtain ⟨u, h', e, gr, m, nc⟩ := wp_ex z
    exact ⟨u, h', e, gr, m, nc⟩
end
end EV
namespace EV
open PySem
inductive TT where
  | lf (w : W)
  | mk (m : Int) (ks : List TT)
mutual
def TT.enc : TT → W
  | .lf w => w
  | .mk m ks => .tup [.str "make", .int m, .tup (TT.encs ks)]
def TT.encs : List TT → List W
  | [] => []
  | k :: ks => k.enc :: TT.encs ks
end
mutual
def TT.sz : TT → Nat
  | .lf _ => 1
  | .mk _ ks => TT.szs ks + 1
def TT.szs : List TT → Nat
  | [] => 0
  | k :: ks => k.sz + TT.szs ks
end
def LfW (w : W) : Prop := ∃ (s : Str) (r : List W), w = .tup (.str s :: r) ∧ ∀ (n : Bool) (h : Hpe), gEq n (.str s) (.str "make") h = .ok (.bl (n != false)) h
mutual
def TT.ok : TT → Prop
  | .lf w => LfW w
  | .mk _ ks => TT.oks ks
def TT.oks : List TT → Prop
  | [] => True
  | k :: ks => k.ok ∧ TT.oks ks
end
mutual
def TT.post : TT → List TT
  | .lf w => [.lf w]
  | .mk m ks => TT.posts ks ++ [.mk m ks]
def TT.posts : List TT → List TT
  | [] => []
  | k :: ks => k.post ++ TT.posts ks
end
theorem TT.encs_map : ∀ ks : List TT, TT.encs ks = ks.map TT.enc
  | [] => rfl
  | k :: ks => by
    show k.enc :: TT.encs ks = k.enc :: ks.map TT.enc
    rw [TT.encs_map ks]
theorem TT.posts_app : ∀ a b : List TT, TT.posts (a ++ b) = TT.posts a ++ TT.posts b
  | [], b => rfl
  | k :: a, b => by
    show k.post ++ TT.posts (a ++ b) = (k.post ++ TT.posts a) ++ TT.posts b
    rw [TT.posts_app a b, List.append_assoc]
theorem TT.szs_app : ∀ a b : List TT, TT.szs (a ++ b) = TT.szs a + TT.szs b
  | [], b => (Nat.zero_add _).symm
  | k :: a, b => by
    show k.sz + TT.szs (a ++ b) = k.sz + TT.szs a + TT.szs b
    rw [TT.szs_app a b, Nat.add_assoc]
theorem TT.oks_app : ∀ {a b : List TT}, TT.oks a → TT.oks b → TT.oks (a ++ b)
  | [], b, _, l => l
  | k :: a, b, l, l' => by
    obtain ⟨l1, l2⟩ : k.ok ∧ TT.oks a := l
    exact ⟨l1, TT.oks_app l2 l'⟩
theorem TT.oks_l : ∀ {a b : List TT}, TT.oks (a ++ b) → TT.oks a ∧ TT.oks b
  | [], b, l => ⟨trivial, l⟩
  | k :: a, b, l => by
    obtain ⟨l1, l2⟩ : k.ok ∧ TT.oks (a ++ b) := l
    obtain ⟨x, y⟩ := TT.oks_l l2
    exact ⟨⟨l1, x⟩, y⟩
theorem TT.sz_pos : ∀ n : TT, 1 ≤ n.sz
  | .lf _ => Nat.le_refl _
  | .mk _ ks => Nat.le_add_left 1 _
theorem TT.szs_len : ∀ ks : List TT, ks.length ≤ TT.szs ks
  | [] => Nat.le_refl _
  | k :: ks => by
    have := TT.szs_len ks
    have := k.sz_pos
    show ks.length + 1 ≤ k.sz + TT.szs ks
    omega
theorem eq_make {n : Bool} {h : Hpe} : gEq n (.str "make") (.str "make") h = .ok (.bl (n != true)) h := by
  have e1 : SeqAt.shaped (.str "make") = true := by decide +kernel
  have e2 : PyData.eqv (.str "make") (.str "make") = true := by decide +kernel
  unfold gEq
  show (bif SeqAt.shaped (.str "make") && SeqAt.shaped (.str "make") then Res.ok (W.bl (n != PyData.eqv (.str "make") (.str "make"))) h else .no) = _
  rw [e1, e2]
  rfl
def uOcc : FS :=
    (sSeq (sPar 1 2 (aC (eLst aN) (aC (eLst (aC (eV 0) aN)) aN)))
      (sSeq (sWh (asT (eV 2)) (sSeq (sAs (eMt0 chkL mPop (eV 2)) (gN 3))
      (sSeq (sEx (eMt chkL mApp (eV 1) (aC (eV 3) aN)))
      (sSeq (sIf (asB (e2 (gEq false) (e2 gIx2 (eV 3) (eK (.int 0))) (eK (.str "make")))) (sSeq (sEx (eMt chkL mExt (eV 2) (aC (e2 gIx2 (eV 3) (eK (.int 2))) aN)))
      sNil) sNil)
      sNil))))
      (sSeq (sEx (eMt0 chkL mRev (eV 1)))
      (sSeq (sRt (eV 1))
      sNil))))
theorem w_extT {n : Nat} {ws zs : List W} {h : Hpe} {Q : W → Hpe → Prop} {E : Exc → Hpe → Prop} (g : h.get n = some (.lst ws)) (l : ws.length + zs.length ≤ 100000) (q : Q .non (h.set n (.lst (ws ++ zs)))) : (mExt (.ref n) [.tup zs] h).Wp Q E := by
  unfold mExt
  dsimp only
  rw [g]
  dsimp only
  rw [line_of l]
  exact q
theorem w_mrev {n : Nat} {ws : List W} {h : Hpe} {Q : W → Hpe → Prop} {E : Exc → Hpe → Prop} (g : h.get n = some (.lst ws)) (q : Q .non (h.set n (.lst ws.reverse))) : (mRev (.ref n) [] h).Wp Q E := by
  unfold mRev
  dsimp only
  rw [g]
  exact q
section
local macro_rules | `(tactic| w_up) => `(tactic| simp only [w_seq, w_nil, w_rt, w_rtN, w_ex, w_as, w_if, w_par, w_rs, w_au, w_v, w_k, w_aN, w_aC, w_e2, w_tup, w_lst, w_cl, w_cl0, w_bl, w_asB, w_asT, w_tNt, w_tAn, w_tOr, w_tYs, w_eIf, w_eAn, w_eNtT, w_eOrT, w_oS, w_oN, w_eIs, w_eIs2, w_mt, w_mt0, wp_ok, wp_exc, List.getElem?_cons_zero, List.getElem?_cons_succ, List.set_cons_zero, List.set_cons_succ, Option.some.injEq, exists_eq_left', nc_int, nc_bl, nc_tup, nc_ref, nc_non, nc_str, true_and, and_true, List.length_cons, List.length_nil, List.map_cons, List.map_nil, W.bl.injEq, W.int.injEq, Bool.not_true, Bool.not_false, Bool.not_not, Bool.false_eq_true, if_true, if_false, iw_tup, iw_int, iw_bl, iw_str, iw_non, tr_bl, tr_int, tr_tup, tr_non, Bool.or_true, Bool.or_false, Bool.true_or, wipeR, qe_bl, qe_int, qe_non, isN_f, isN_t, beq_self_eq_true, bne_self_eq_false, Bool.false_bne, Bool.true_bne, o_gI, o_gI0, o_gB0, o_mulI, add_ii, o_mulW, o_addW, wd_fold, nc_wd, tr_wd, w_sl, sl_wd, cut_toN, cut_frN, qe_wd, len_wd])
theorem occ_wp {root : TT} {h : Hpe} (ok : root.ok) (rs : root.sz ≤ 20000) (n0 : h.nx ≤ 100000000) : (runB 4 uOcc [root.enc] h).Wp (fun w h' => w = .ref h.nx ∧ h'.get h.nx = some (.lst (TT.encs root.post)) ∧ Gr noM 2 h h' ∧ h.nx < h'.nx) (fun _ _ => False) := by
  have nv : ∀ t : TT, t.ok → noClo t.enc = true := fun t o => by
    cases t with
    | lf w =>
      obtain ⟨s, r, e, _⟩ : LfW w := o
      show noClo w = true
      rw [e]
      rfl
    | mk m ks => rfl
  rw [run_eq]
  show (uOcc [some root.enc, none, none, none] h).Wp _
  unfold uOcc
  w_up
  refine ⟨rfl, by omega, nv _ ok, rfl, by show h.nx + 1 < _; omega, ?_⟩
  have ga := new_get (h := h) (.lst []) (by omega)
  have g1 : Gr noM 1 h (h.new (.lst [])) := Gr.new _
  have x1 : (h.new (.lst [])).nx = h.nx + 1 := rfl
  generalize h.new (.lst []) = h1 at ga g1 x1 ⊢
  have gb := new_get (h := h1) (.lst [root.enc]) (by omega)
  have g2 : Gr noM 1 h1 (h1.new (.lst [root.enc])) := Gr.new _
  have x2 : (h1.new (.lst [root.enc])).nx = h1.nx + 1 := rfl
  generalize h1.new (.lst [root.enc]) = h2 at gb g2 x2 ⊢
  have ga2 := (g2.old _ (by omega) fun z => z).trans ga
  with_reducible refine w_wh (fun k ρ h' => ∃ (fnd pend : List TT) (v3 : Option W), ρ = [some root.enc, some (.ref h.nx), some (.ref h1.nx), v3] ∧ h'.get h.nx = some (.lst (TT.encs fnd)) ∧ h'.get h1.nx = some (.lst (TT.encs pend)) ∧ TT.oks pend ∧ TT.szs pend = k ∧ k + fnd.length ≤ root.sz ∧ fnd ++ (TT.posts pend).reverse = root.post.reverse ∧ h'.nx = h2.nx ∧ Gr noM 2 h h') root.sz ?_ ?_ ?_
  · omega
  · refine ⟨[], [root], none, rfl, ga2, gb, ⟨ok, trivial⟩, ?_, ?_, ?_, rfl, (g1.trans g2)⟩
    · show root.sz + 0 = root.sz
      omega
    · show root.sz + 0 ≤ root.sz
      omega
    · show [] ++ (root.post ++ []).reverse = _
      rw [List.append_nil, List.nil_append]
  · rintro k ρ h' ⟨fnd, pend, v3, rfl, gf, gp, oks, sz, le, all, nx, gr⟩
    w_up
    refine ⟨_, tr_lst gp, ?_⟩
    have lf := gr.le
    have ll := gr.lt
    rcases List.eq_nil_or_concat pend with rfl | ⟨rest, p, ep⟩
    · rw [if_neg (by show ¬ ((!true) = true); decide)]
      have all : fnd ++ [] = root.post.reverse := all
      rw [List.append_nil] at all
      subst all
      refine ⟨chk_lst gf, w_mrev gf ?_⟩
      refine ⟨by rw [get_set (by omega), if_pos rfl, TT.encs_map, TT.encs_map, ← List.map_reverse, List.reverse_reverse], ?_, by show h.nx < h'.nx; omega⟩
      exact ⟨gr.le, gr.lt, fun i hi m => by rw [get_set (by omega), if_neg (by omega)]; exact gr.old i hi m, gr.lk⟩
    · rw [List.concat_eq_append] at ep
      subst ep
      have gp0 := gp
      obtain ⟨okR, okP⟩ := TT.oks_l oks
      have okP : p.ok := (show p.ok ∧ True from okP).1
      rw [TT.encs_map, List.map_append] at gp
      have gp : h'.get h1.nx = some (.lst (rest.map TT.enc ++ [p.enc])) := gp
      rw [show (!(TT.encs (rest ++ [p])).isEmpty) = true by rw [TT.encs_map, List.map_append]; simp]
      rw [TT.szs_app] at sz
      have szp : TT.szs [p] = p.sz + 0 := rfl
      rw [szp] at sz
      have lnr := TT.szs_len rest
      rw [TT.posts_app, List.reverse_append] at all
      have all : fnd ++ ((p.post ++ []).reverse ++ (TT.posts rest).reverse) = root.post.reverse := all
      rw [List.append_nil] at all
      w_up
      refine ⟨chk_lst gp, w_pop gp ?_⟩
      have gs : ∀ i, i ≠ h1.nx → (h'.set h1.nx (.lst (rest.map TT.enc))).get i = h'.get i := fun i m => by rw [get_set (by omega), if_neg m]
      have gp1 : (h'.set h1.nx (.lst (rest.map TT.enc))).get h1.nx = some (.lst (rest.map TT.enc)) := by rw [get_set (by omega), if_pos rfl]
      have xa : (h'.set h1.nx (.lst (rest.map TT.enc))).nx = h'.nx := rfl
      have la : (h'.set h1.nx (.lst (rest.map TT.enc))).lk = h'.lk := rfl
      generalize h'.set h1.nx (.lst (rest.map TT.enc)) = h3 at gs gp1 xa la ⊢
      have gf3 := (gs h.nx (by omega)).trans gf
      have lfe : (TT.encs fnd).length = fnd.length := by rw [TT.encs_map, List.length_map]
      refine ⟨chk_lst gf3, nv _ okP, w_app gf3 (by omega) ?_⟩
      have gs4 : ∀ i, i ≠ h.nx → (h3.set h.nx (.lst (TT.encs fnd ++ [p.enc]))).get i = h3.get i := fun i m => by rw [get_set (by omega), if_neg m]
      have gf4 : (h3.set h.nx (.lst (TT.encs fnd ++ [p.enc]))).get h.nx = some (.lst (TT.encs (fnd ++ [p]))) := by
        rw [get_set (by omega), if_pos rfl, TT.encs_map, TT.encs_map, List.map_append]
        rfl
      have xb : (h3.set h.nx (.lst (TT.encs fnd ++ [p.enc]))).nx = h3.nx := rfl
      have lb : (h3.set h.nx (.lst (TT.encs fnd ++ [p.enc]))).lk = h3.lk := rfl
      generalize h3.set h.nx (.lst (TT.encs fnd ++ [p.enc])) = h4 at gs4 gf4 xb lb ⊢
      have gp4 := (gs4 h1.nx (by omega)).trans gp1
      have gr4 : Gr noM 2 h h4 := ⟨by omega, by omega, fun i hi m => (gs4 i (by omega)).trans ((gs i (by omega)).trans (gr.old i hi m)), by rw [lb, la]; exact gr.lk⟩
      cases p with
      | lf w =>
        obtain ⟨s, r, e, ne⟩ : LfW w := okP
        have e2 : (TT.lf w).enc = .tup (.str s :: r) := e
        rw [e2]
        refine ⟨rfl, wp_eq (ix_t (atI_0 _ _)) (wp_eq (ne false h4) ?_)⟩
        w_up
        refine ⟨TT.szs rest, by have : (TT.lf w).sz = 1 := rfl; omega, fnd ++ [.lf w], rest, _, rfl, gf4, by rw [TT.encs_map]; exact gp4, okR, rfl, ?_, ?_, by omega, gr4⟩
        · rw [List.length_append]
          have : (TT.lf w).sz = 1 := rfl
          show _ + (fnd.length + 1) ≤ _
          omega
        · rw [List.append_assoc]
          exact all
      | mk m ks =>
        have okK : TT.oks ks := okP
        have e2 : (TT.mk m ks).enc = .tup [.str "make", .int m, .tup (TT.encs ks)] := rfl
        rw [e2]
        have szk : (TT.mk m ks).sz = TT.szs ks + 1 := rfl
        have lnk := TT.szs_len ks
        refine ⟨rfl, wp_eq (ix_t (atI_0 _ _)) (wp_eq eq_make ?_)⟩
        w_up
        refine ⟨chk_lst gp4, wp_eq (ix_t (w := .tup (TT.encs ks)) (atI_n (i := 2) rfl)) (w_extT gp4 (by rw [TT.encs_map, List.length_map, List.length_map]; omega) ?_)⟩
        refine ⟨TT.szs (rest ++ ks), by rw [TT.szs_app]; omega, fnd ++ [.mk m ks], rest ++ ks, _, rfl, by rw [get_set (by omega), if_neg (by omega)]; exact gf4, by rw [get_set (by omega), if_pos rfl, TT.encs_map, TT.encs_map, List.map_append], TT.oks_app okR okK, rfl, ?_, ?_, by show h4.nx = _; omega, ?_⟩
        · rw [TT.szs_app, List.length_append]
          show _ + (fnd.length + 1) ≤ _
          omega
        · rw [TT.posts_app, List.reverse_append, ← all, List.append_assoc]
          show fnd ++ ([TT.mk m ks] ++ ((TT.posts ks).reverse ++ (TT.posts rest).reverse)) = fnd ++ ((TT.posts ks ++ [TT.mk m ks]).reverse ++ (TT.posts rest).reverse)
          rw [List.reverse_append, List.append_assoc]
          rfl
        · exact ⟨gr4.le, gr4.lt, fun i hi m => by rw [get_set (by omega), if_neg (by omega)]; exact gr4.old i hi m, gr4.lk⟩
end
end EV
namespace EV
def comb2 (m : Int) : TT → TT → TT
  | .mk k [x, y], b => if k = m then .mk m [x, comb2 m y b] else .mk m [.mk k [x, y], b]
  | a, b => .mk m [a, b]
termination_by a => a.sz
decreasing_by
  show y.sz < x.sz + (y.sz + 0) + 1
  omega
def cmk (m own : Int) : List TT → TT
  | [a, b] => if own = m then comb2 m a b else .mk own [a, b]
  | ks => .mk own ks
mutual
def TT.cmb (m : Int) : TT → TT
  | .lf w => .lf w
  | .mk k ks => cmk m k (TT.cmbs m ks)
def TT.cmbs (m : Int) : List TT → List TT
  | [] => []
  | k :: ks => k.cmb m :: TT.cmbs m ks
end
def TT.two (m : Int) : TT → Bool
  | .mk k [_, _] => k == m
  | _ => false
theorem comb2_two {m : Int} {x y b : TT} : comb2 m (.mk m [x, y]) b = .mk m [x, comb2 m y b] := by
  rw [comb2, if_pos rfl]
theorem comb2_no {m : Int} {a b : TT} (h : a.two m = false) : comb2 m a b = .mk m [a, b] := by
  match a, h with
  | .lf w, _ => rw [comb2]; intro k x y e; cases e
  | .mk k [x, y], h =>
    have h : (k == m) = false := h
    rw [comb2, if_neg (beq_eq_false_iff_ne.mp h)]
  | .mk k [], _ => rw [comb2]; intro k x y e; cases e
  | .mk k [x], _ => rw [comb2]; intro k x y e; cases e
  | .mk k (x :: y :: z :: r), _ => rw [comb2]; intro k x y e; cases e
theorem TT.two_iff {m : Int} {a : TT} (h : a.two m = true) : ∃ x y, a = .mk m [x, y] := by
  match a, h with
  | .mk k [x, y], h =>
    have h : (k == m) = true := h
    exact ⟨x, y, by rw [beq_iff_eq.mp h]⟩
  | .mk k [], h => cases h
  | .mk k [x], h => cases h
  | .mk k (x :: y :: z :: r), h => cases h
  | .lf w, h => cases h
theorem comb2_sz (m : Int) : ∀ (n : Nat) (a b : TT), a.sz ≤ n → (comb2 m a b).sz = a.sz + b.sz + 1 := by
  intro n
  induction n with
  | zero => intro a b l; have := a.sz_pos; omega
  | succ n ih =>
    intro a b l
    cases c : a.two m with
    | true =>
      obtain ⟨x, y, rfl⟩ := TT.two_iff c
      have s1 : (TT.mk m [x, y]).sz = x.sz + (y.sz + 0) + 1 := rfl
      rw [comb2_two]
      show x.sz + ((comb2 m y b).sz + 0) + 1 = _
      rw [ih y b (by omega)]
      omega
    | false =>
      rw [comb2_no c]
      show a.sz + (b.sz + 0) + 1 = _
      omega
theorem comb2_ok (m : Int) : ∀ (n : Nat) (a b : TT), a.sz ≤ n → a.ok → b.ok → (comb2 m a b).ok := by
  intro n
  induction n with
  | zero => intro a b l; have := a.sz_pos; omega
  | succ n ih =>
    intro a b l oa ob
    cases c : a.two m with
    | true =>
      obtain ⟨x, y, rfl⟩ := TT.two_iff c
      have s1 : (TT.mk m [x, y]).sz = x.sz + (y.sz + 0) + 1 := rfl
      have ox : x.ok ∧ (y.ok ∧ True) := oa
      rw [comb2_two]
      exact ⟨ox.1, ih y b (by omega) ox.2.1 ob, trivial⟩
    | false =>
      rw [comb2_no c]
      exact ⟨oa, ob, trivial⟩
theorem cmk_sz (m own : Int) (ks : List TT) : (cmk m own ks).sz = TT.szs ks + 1 := by
  unfold cmk
  split
  · rename_i a b
    split
    · rw [comb2_sz m a.sz a b (Nat.le_refl _)]
      show _ = a.sz + (b.sz + 0) + 1
      omega
    · rfl
  · rfl
theorem cmk_ok (m own : Int) (ks : List TT) (o : TT.oks ks) : (cmk m own ks).ok := by
  unfold cmk
  split
  · rename_i a b
    have o : a.ok ∧ (b.ok ∧ True) := o
    split
    · exact comb2_ok m a.sz a b (Nat.le_refl _) o.1 o.2.1
    · exact o
  · exact o
theorem TT.cmbs_map (m : Int) : ∀ ks : List TT, TT.cmbs m ks = ks.map (TT.cmb m)
  | [] => rfl
  | k :: ks => by
    show k.cmb m :: TT.cmbs m ks = k.cmb m :: ks.map (TT.cmb m)
    rw [TT.cmbs_map m ks]
def fstep (m : Int) (S : List TT) : TT → List TT
  | .lf w => S ++ [.lf w]
  | .mk k ks => S.take (S.length - ks.length) ++ [cmk m k (S.drop (S.length - ks.length))]
mutual
theorem fold_post (m : Int) : ∀ (t : TT) (S : List TT), t.post.foldl (fstep m) S = S ++ [t.cmb m]
  | .lf w, S => rfl
  | .mk k ks, S => by
    show (TT.posts ks ++ [TT.mk k ks]).foldl (fstep m) S = _
    rw [List.foldl_append, fold_posts m ks S]
    show (S ++ TT.cmbs m ks).take _ ++ [cmk m k ((S ++ TT.cmbs m ks).drop _)] = _
    have l : (S ++ TT.cmbs m ks).length - ks.length = S.length := by rw [List.length_append, TT.cmbs_map, List.length_map]; omega
    rw [l, List.take_left, List.drop_left]
    rfl
theorem fold_posts (m : Int) : ∀ (ks : List TT) (S : List TT), (TT.posts ks).foldl (fstep m) S = S ++ TT.cmbs m ks
  | [], S => (List.append_nil S).symm
  | k :: ks, S => by
    show (k.post ++ TT.posts ks).foldl (fstep m) S = S ++ (k.cmb m :: TT.cmbs m ks)
    rw [List.foldl_append, fold_post m k S, fold_posts m ks, List.append_assoc]
    rfl
end
mutual
theorem TT.post_split : ∀ (t : TT) {A S : List TT} {k : Int} {ks : List TT}, t.post = A ++ .mk k ks :: S → ∃ A', A = A' ++ TT.posts ks
  | .lf w, A, S, k, ks, e => by
    cases A with
    | nil => cases e
    | cons a A =>
      have e : [TT.lf w] = a :: (A ++ .mk k ks :: S) := e
      have := (List.cons.inj e).2
      cases A <;> cases this
  | .mk m cs, A, S, k, ks, e => by
    have e : TT.posts cs ++ [TT.mk m cs] = A ++ .mk k ks :: S := e
    rcases List.append_eq_append_iff.mp e with ⟨B, e1, e2⟩ | ⟨B, e1, e2⟩
    · cases B with
      | nil =>
        have e2 : [TT.mk m cs] = TT.mk k ks :: S := e2
        cases e2
        exact ⟨[], by rw [e1, List.append_nil]; rfl⟩
      | cons b B =>
        have e2 : [TT.mk m cs] = b :: (B ++ TT.mk k ks :: S) := e2
        have := (List.cons.inj e2).2
        cases B <;> cases this
    · cases B with
      | nil =>
        have e2 : TT.mk k ks :: S = [TT.mk m cs] := e2
        cases e2
        rw [List.append_nil] at e1
        exact ⟨[], by rw [← e1]; rfl⟩
      | cons b B =>
        have e2 : TT.mk k ks :: S = b :: (B ++ [TT.mk m cs]) := e2
        cases e2
        exact TT.posts_split cs e1
theorem TT.posts_split : ∀ (cs : List TT) {A S : List TT} {k : Int} {ks : List TT}, TT.posts cs = A ++ .mk k ks :: S → ∃ A', A = A' ++ TT.posts ks
  | [], A, S, k, ks, e => by cases A <;> cases e
  | c :: cs, A, S, k, ks, e => by
    have e : c.post ++ TT.posts cs = A ++ .mk k ks :: S := e
    rcases List.append_eq_append_iff.mp e with ⟨B, e1, e2⟩ | ⟨B, e1, e2⟩
    · obtain ⟨A', e3⟩ := TT.posts_split cs e2
      exact ⟨c.post ++ A', by rw [e1, e3, List.append_assoc]⟩
    · cases B with
      | nil =>
        obtain ⟨A', e3⟩ := TT.posts_split cs (A := []) e2.symm
        have z : TT.posts ks = [] ∧ A' = [] := by
          have := e3.symm
          rw [List.append_eq_nil_iff] at this
          exact ⟨this.2, this.1⟩
        exact ⟨A, by rw [z.1, List.append_nil]⟩
      | cons b B =>
        have e2 : TT.mk k ks :: S = b :: (B ++ TT.posts cs) := e2
        cases e2
        exact TT.post_split c e1
end
mutual
theorem TT.post_ok : ∀ (t : TT), t.ok → ∀ c ∈ t.post, c.ok
  | .lf w, o, c, m => by
    rcases List.mem_singleton.mp (show c ∈ [TT.lf w] from m) with rfl
    exact o
  | .mk k ks, o, c, m => by
    rcases List.mem_append.mp (show c ∈ TT.posts ks ++ [TT.mk k ks] from m) with m | m
    · exact TT.posts_ok ks o c m
    · rcases List.mem_singleton.mp m with rfl
      exact o
theorem TT.posts_ok : ∀ (ks : List TT), TT.oks ks → ∀ c ∈ TT.posts ks, c.ok
  | [], _, c, m => by cases m
  | k :: ks, o, c, m => by
    obtain ⟨a, b⟩ : k.ok ∧ TT.oks ks := o
    rcases List.mem_append.mp (show c ∈ k.post ++ TT.posts ks from m) with m | m
    · exact TT.post_ok k a c m
    · exact TT.posts_ok ks b c m
end
mutual
theorem TT.post_len : ∀ t : TT, t.post.length = t.sz
  | .lf w => rfl
  | .mk k ks => by
    show (TT.posts ks ++ [TT.mk k ks]).length = TT.szs ks + 1
    rw [List.length_append, TT.posts_len ks]
    rfl
theorem TT.posts_len : ∀ ks : List TT, (TT.posts ks).length = TT.szs ks
  | [] => rfl
  | k :: ks => by
    show (k.post ++ TT.posts ks).length = k.sz + TT.szs ks
    rw [List.length_append, TT.post_len k, TT.posts_len ks]
end
end EV
namespace EV
open PySem
section
variable {h : Hpe} {ρ : Rho} {E : Exc → Hpe → Prop} {Q : W → Hpe → Prop}
theorem w_iL {f : FE} {Q : Src → Hpe → Prop} (e : (f ρ h).Wp (fun w h => ∃ n ws, w = .ref n ∧ h.get n = some (.lst ws) ∧ Q (srcL n) h) E) : (iV3 f ρ h).Wp Q E := by
  unfold iV3
  rw [wp_bind]
  refine e.mono (fun w h z => ?_) (fun _ _ q => q)
  obtain ⟨n, ws, e, g, q⟩ := z
  subst e
  have lk : lockW h n = none := by unfold lockW; rw [g]
  dsimp only
  rw [lk]
  dsimp only
  rw [rdL_of g]
  exact q
end
section
variable {h : Hpe} {ρ : Rho} {E : Exc → Hpe → Prop} {Q : W → Hpe → Prop} {D : Po}
theorem cl_gT2 {i j : Nat} {a b : W} : (gTL 2 (gsC (gN i) (gsC (gN j) gsN)) (.tup [a, b]) ρ h).cl.Wp D = D.nx ((ρ.set i (some a)).set j (some b)) h := by
  show ((((gN i a ρ h).seq fun ρ' h' => gsC (gN j) gsN [b] ρ' h')).cl).Wp D = _
  unfold gN
  rw [setR_eq]
  show ((((gN j b (ρ.set i (some a)) h).seq fun ρ' h' => gsN [] ρ' h')).cl).Wp D = _
  unfold gN
  rw [setR_eq]
  rfl
theorem w_addL {a k : Nat} {xs zs : List W} (ga : h.get a = some (.lst xs)) (gk : h.get k = some (.lst zs)) (l : xs.length + zs.length ≤ 100000) (nx : h.nx < 1000000000) (q : Q (.ref h.nx) (h.new (.lst (xs ++ zs)))) : (gAdd (.ref a) (.ref k) h).Wp Q E := by
  unfold gAdd
  dsimp only
  rw [rdL_of ga, rdL_of gk]
  dsimp only
  rw [line_of l]
  show (h.al _).Wp Q E
  rw [w_al]
  exact ⟨by omega, q⟩
abbrev ZT := Nat × (Nat → Option Ob)
structure StU (Z : ZT) (n : Nat) (c : Int) (b : Nat) (h : Hpe) : Prop where
  urn : UrnAt h n c
  hn : n < h.nx
  nx : h.nx ≤ b
  lk : h.lk = []
  fr : Z.1 ≤ h.nx ∧ ∀ i, i < Z.1 → i ≠ n → h.get i = Z.2 i
theorem StU.draw {Z : ZT} {n : Nat} {c c' : Int} {b k : Nat} {h h' : Hpe} (s : StU Z n c b h) (u : UrnAt h' n c') (gr : Gr (· = n) k h h') : StU Z n c' (b + k) h' :=
  ⟨u, Nat.lt_of_lt_of_le s.hn gr.le, by have := gr.lt; have := s.nx; omega, gr.lk.trans s.lk, Nat.le_trans s.fr.1 gr.le, fun i hi m => (gr.old i (Nat.lt_of_lt_of_le hi s.fr.1) m).trans (s.fr.2 i hi m)⟩
theorem StU.grow {Z : ZT} {n : Nat} {c : Int} {b k : Nat} {h h' : Hpe} (s : StU Z n c b h) (gr : Gr noM k h h') : StU Z n c (b + k) h' := by
  refine s.draw ?_ (gr.mono (Nat.le_refl _) fun _ _ z => z.elim)
  obtain ⟨a, b, c', g, x, y⟩ := s.urn
  exact ⟨a, b, c', (gr.old n s.hn fun z => z).trans g, x, y⟩
theorem StU.mono {Z : ZT} {n : Nat} {c c' : Int} {b b' : Nat} {h : Hpe} (s : StU Z n c b h) (hb : b ≤ b') (hc : c ≤ c') : StU Z n c' b' h := by
  obtain ⟨x, y, z, g, p, q⟩ := s.urn
  exact ⟨⟨x, y, z, g, p, by omega⟩, s.hn, by have := s.nx; omega, s.lk, s.fr⟩
structure SmL (h : Hpe) (B : Nat → Prop) (xs ys : List W) : Prop where
  len : xs.length = ys.length
  sm : ∀ (i : Nat) (w u : W), xs[i]? = some w → ys[i]? = some u → Sm h B 3 100 w u
theorem SmL.app {B : Nat → Prop} {xs ys xs' ys' : List W} (a : SmL h B xs ys) (b : SmL h B xs' ys') : SmL h B (xs ++ xs') (ys ++ ys') :=
  ⟨by rw [List.length_append, List.length_append, a.len, b.len], fun i w u e1 e2 => by
    rw [List.getElem?_append] at e1 e2
    by_cases c : i < xs.length
    · rw [if_pos c] at e1
      rw [if_pos (by rw [← a.len]; exact c)] at e2
      exact a.sm i w u e1 e2
    · rw [if_neg c] at e1
      rw [if_neg (by rw [← a.len]; exact c), ← a.len] at e2
      exact b.sm _ w u e1 e2⟩
theorem SmL.nil {B : Nat → Prop} : SmL h B [] [] := ⟨rfl, fun i w u e => by simp at e⟩
theorem SmL.cons {B : Nat → Prop} {w u : W} {xs ys : List W} (s : Sm h B 3 100 w u) (a : SmL h B xs ys) : SmL h B (w :: xs) (u :: ys) :=
  ⟨by rw [List.length_cons, List.length_cons, a.len], fun i v v' e1 e2 => by
    cases i with
    | zero =>
      simp at e1 e2
      subst e1 e2
      exact s
    | succ i => exact a.sm i v v' (by simpa using e1) (by simpa using e2)⟩
theorem SmL.mono {h' : Hpe} {B : Nat → Prop} {xs ys : List W} (a : SmL h B xs ys) (o : ∀ i, i < h.nx → ¬ B i → h'.get i = h.get i) (le : h.nx ≤ h'.nx) : SmL h' B xs ys :=
  ⟨a.len, fun i w u e1 e2 => (a.sm i w u e1 e2).mono o le (Nat.le_refl _) (Nat.le_refl _)⟩
end
end EV
namespace L37
open PySem EV
section
local macro_rules | `(tactic| w_up) => `(tactic| simp only [w_seq, w_nil, w_rt, w_rtN, w_ex, w_as, w_if, w_par, w_rs, w_au, w_v, w_k, w_aN, w_aC, w_e2, w_tup, w_lst, w_cl, w_cl0, w_bl, w_asB, w_asT, w_tNt, w_tAn, w_tOr, w_tYs, w_eIf, w_eAn, w_eNtT, w_eOrT, w_oS, w_oN, w_eIs, w_eIs2, w_mt, w_mt0, wp_ok, wp_exc, List.getElem?_cons_zero, List.getElem?_cons_succ, List.set_cons_zero, List.set_cons_succ, Option.some.injEq, exists_eq_left', nc_int, nc_bl, nc_tup, nc_ref, nc_non, nc_str, true_and, and_true, List.length_cons, List.length_nil, List.map_cons, List.map_nil, W.bl.injEq, W.int.injEq, Bool.not_true, Bool.not_false, Bool.not_not, Bool.false_eq_true, if_true, if_false, iw_tup, iw_int, iw_bl, iw_str, iw_non, tr_bl, tr_int, tr_tup, tr_non, Bool.or_true, Bool.or_false, Bool.true_or, wipeR, qe_bl, qe_int, qe_non, isN_f, isN_t, beq_self_eq_true, bne_self_eq_false, Bool.false_bne, Bool.true_bne, o_gI, o_gI0, o_gB0, o_mulI, add_ii, o_mulW, o_addW, wd_fold, nc_wd, tr_wd, w_sl, sl_wd, cut_toN, cut_frN, qe_wd, len_wd])
variable {d : Nat} {h : Hpe}
theorem b0 (T : Tab) : (bodies T).get 0 = frm (runB 9 (uFz (T 1))) := rfl
theorem b1 (T : Tab) : (bodies T).get 1 = frm (runB 4 uHold) := rfl
theorem b2 (T : Tab) : (bodies T).get 2 = runB 4 uOcc := rfl
theorem b3 (T : Tab) : (bodies T).get 3 = runB 7 (F_folded T) := rfl
theorem b4 (T : Tab) : (bodies T).get 4 = frm (runB 2 (F_making T)) := rfl
theorem b5 (T : Tab) : (bodies T).get 5 = frm (runB 2 (F_combed T)) := rfl
theorem b6 (T : Tab) : (bodies T).get 6 = runB 7 (F__combed_making T) := rfl
theorem b9 (T : Tab) : (bodies T).get 9 = runB 6 uTake := rfl
theorem b11 (T : Tab) : (bodies T).get 11 = frm (runB 4 (uSame (T 11))) := rfl
theorem b12 (T : Tab) : (bodies T).get 12 = runB 2 (uLists (T 12)) := rfl
theorem b24 (T : Tab) : (bodies T).get 24 = arG 1 (runB 1 (F_l24 T)) := rfl
theorem b25 (T : Tab) : (bodies T).get 25 = arG 3 (runB 3 (F_l25 T)) := rfl
theorem enc_nc {t : TT} (o : t.ok) : noClo t.enc = true := by
  cases t with
  | lf w =>
    obtain ⟨s, r, e, _⟩ : LfW w := o
    show noClo w = true
    rw [e]
    rfl
  | mk m ks => rfl
theorem encs_len (ts : List TT) : (TT.encs ts).length = ts.length := by rw [TT.encs_map, List.length_map]
theorem mk_wp {w : W} {k : Int} {ws : List W} (e : rdS w h = some ws) (nc : noClo w = true) (nf : ∀ h', rdS w h' = some ws ∨ noRef w = false) : (callE (d + 1) 4 [.int k, w] h).Wp (fun u h' => u = .tup [.str "make", .int k, .tup ws] ∧ h' = h) (fun _ _ => False) := by
  have body : ∀ h, rdS w h = some ws → (runB 2 (F_making (callE d)) [.int k, w] h).Wp (fun u h' => u = .tup [.str "make", .int k, .tup ws] ∧ h' = h) (fun _ _ => False) := by
    intro h e
    rw [run_eq]
    show (F_making (callE d) [some (.int k), some w] h).Wp _
    unfold F_making
    w_up
    refine ⟨nc, w_btup e ⟨rfl, rfl, rfl⟩⟩
  rw [callE_at, b4]
  cases c : noRef w with
  | true =>
    have e0 : rdS w Hpe.nil = some ws := by
      rcases nf Hpe.nil with z | z
      · exact z
      · rw [c] at z; cases z
    have nr : noRefs [W.int k, w] = true := by
      rw [noRefs_c, noRefs_c, c]
      rfl
    have nw : noRef (W.tup [.str "make", .int k, .tup ws]) = true := by
      cases w with
      | tup us =>
        have : some us = some ws := e0
        cases this
        rw [noRef_t, noRefs_c, noRefs_c, noRefs_c, c]
        rfl
      | ref n => cases c
      | _ => cases e0
    exact wp_eq (frm_is nr nw ((body _ e0).mono (fun _ _ q => q.1) (fun _ _ q => q)) h) ⟨rfl, rfl⟩
  | false =>
    have nr : noRefs [W.int k, w] = false := by
      rw [noRefs_c, noRefs_c, c]
      rfl
    unfold frm
    rw [nr]
    exact body h e
theorem two_len {m k : Int} {ks : List TT} : ((k == m) && ((ks.length : Int) == 2)) = (TT.mk k ks).two m := by
  match ks with
  | [] => simp [TT.two]
  | [x] => simp [TT.two]
  | [x, y] => simp [TT.two]
  | x :: y :: z :: r =>
    rw [show (((x :: y :: z :: r).length : Int) == 2) = false by rw [beq_eq_false_iff_ne]; simp only [List.length_cons]; omega]
    simp [TT.two]
theorem cm_two {n f : Nat} {m : Int} {a b : TT} {D : Po} {s5 s6 : Option W} (oa : a.ok) (ob : b.ok) (sz : a.sz + b.sz ≤ 20000) (gn : h.get n = some (.lst [a.enc, b.enc])) (hn : n < h.nx) (nx : h.nx ≤ 10000000) (lk : h.lk = []) (o5 : True)
    (q : ∀ h', Gr noM 10 h h' → D.rt (comb2 m a b).enc h') :
    ((sSeq (sPar 3 4 (aC (eLst aN) (aC (e2 gIx2 (eV 1) (eK (.int 0))) aN)))
      (sSeq (sWh (tAn (asB (e2 (gEq false) (e2 gIx2 (eV 4) (eK (.int 0))) (eK (.str "make")))) (tAn (asB (e2 (gEq false) (e2 gIx2 (eV 4) (eK (.int 1))) (eV 2))) (asB (e2 (gEq false) (eBl bLen3 (aC (e2 gIx2 (eV 4) (eK (.int 2))) aN)) (eK (.int 2)))))) (sSeq (sEx (eMt chkL mApp (eV 3) (aC (e2 gIx2 (e2 gIx2 (eV 4) (eK (.int 2))) (eK (.int 0))) aN)))
      (sSeq (sAs (e2 gIx2 (e2 gIx2 (eV 4) (eK (.int 2))) (eK (.int 1))) (gN 4))
      sNil)))
      (sSeq (sAs (e2 gIx2 (eV 1) (eK (.int 1))) (gN 5))
      (sSeq (sUn (sFor (iV3 (e2 gAdd (eLst (aC (eV 4) aN)) (eRev2 (eV 3)))) (gN 6) (sSeq (sAs (eCl 2 (callE (d + 1) 4) (aC (eV 2) (aC (eTup (aC (eV 6) (aC (eV 5) aN))) aN))) (gN 5))
      sNil)))
      (sSeq (sRt (eV 5))
      sNil))))) [some (.int m), some (.ref n), some (.int m), none, none, none, none] h).Wp D := by
  w_up
  refine ⟨rfl, by omega, ?_⟩
  have gf := new_get (h := h) (.lst []) (by omega)
  have g1 : Gr noM 1 h (h.new (.lst [])) := Gr.new _
  have x1 : (h.new (.lst [])).nx = h.nx + 1 := rfl
  generalize h.new (.lst []) = h1 at gf g1 x1 ⊢
  have gn1 := (g1.old n hn fun z => z).trans gn
  refine wp_eq (ix_lst gn1 (atI_0 _ _)) ?_
  with_reducible refine w_wh (fun k ρ h' => ∃ (F : List TT) (r : TT), ρ = [some (.int m), some (.ref n), some (.int m), some (.ref h.nx), some r.enc, none, none] ∧ h'.get h.nx = some (.lst (TT.encs F)) ∧ r.ok ∧ TT.oks F ∧ r.sz = k ∧ F.length + k ≤ a.sz ∧ comb2 m a b = F.foldr (fun x acc => .mk m [x, acc]) (comb2 m r b) ∧ h'.nx = h1.nx ∧ Gr noM 1 h h') a.sz ?_ ?_ ?_
  · omega
  · exact ⟨[], a, rfl, gf, oa, trivial, rfl, by show 0 + a.sz ≤ a.sz; omega, rfl, rfl, g1⟩
  · rintro k ρ h' ⟨F, r, rfl, gF, ro, oF, rk, le, eq, nx', gr⟩
    have lk' := gr.lk.trans lk
    have pos := r.sz_pos
    have gn' := (gr.old n hn fun z => z).trans gn
    have lF : (TT.encs F).length = F.length := encs_len F
    w_up
    refine ⟨enc_nc ro, ?_⟩
    -- behind the loop
    have fin : r.two m = false → D.rt (comb2 m a b).enc h' ∨ True := fun _ => .inr trivial
    have out : r.two m = false → (gIx2 (.ref n) (.int 1) h').Wp (fun w hx => (sUn (sFor (iV3 (e2 gAdd (eLst (aC (eV 4) aN)) (eRev2 (eV 3)))) (gN 6) (sSeq (sAs (eCl 2 (callE (d + 1) 4) (aC (eV 2) (aC (eTup (aC (eV 6) (aC (eV 5) aN))) aN))) (gN 5)) sNil)) [some (.int m), some (.ref n), some (.int m), some (.ref h.nx), some r.enc, some w, none] hx).Wp ⟨fun ρ h => ∃ w, ρ[5]? = some (some w) ∧ noClo w = true ∧ D.rt w h, D.rt, D.bk, D.ct, D.ex⟩) (fun x hx => D.ex x [some (.int m), some (.ref n), some (.int m), some (.ref h.nx), some r.enc, none, none] hx) := by
      intro c
      refine wp_eq (ix_lst gn' (atI_n (i := 1) rfl)) ?_
      rw [w_un]
      have n4 : h'.nx = h.nx + 1 := by omega
      generalize hf : (iV3 _) = fi
      have src : (fi [some (.int m), some (.ref n), some (.int m), some (.ref h.nx), some r.enc, some b.enc, none] h').Wp (fun src h2 => ∃ l, h2.get l = some (.lst (r.enc :: (TT.encs F).reverse)) ∧ src = srcL l ∧ Gr noM 3 h' h2 ∧ l < h2.nx) (fun _ _ => False) := by
        subst hf
        refine w_iL ?_
        w_up
        refine ⟨enc_nc ro, rfl, by omega, ?_⟩
        have ga := new_get (h := h') (.lst [r.enc]) (by omega)
        have ga1 : Gr noM 1 h' (h'.new (.lst [r.enc])) := Gr.new _
        have xa : (h'.new (.lst [r.enc])).nx = h'.nx + 1 := rfl
        generalize h'.new (.lst [r.enc]) = h2 at ga ga1 xa ⊢
        refine w_rev2 ?_
        w_up
        refine ⟨h.nx, _, rfl, (ga1.old _ (by omega) fun z => z).trans gF, by omega, ?_⟩
        have gb := new_get (h := h2) (.lst (TT.encs F).reverse) (by omega)
        have gb1 : Gr noM 1 h2 (h2.new (.lst (TT.encs F).reverse)) := Gr.new _
        have xb : (h2.new (.lst (TT.encs F).reverse)).nx = h2.nx + 1 := rfl
        generalize h2.new (.lst (TT.encs F).reverse) = h3 at gb gb1 xb ⊢
        have ga3 := (gb1.old h'.nx (by omega) fun z => z).trans ga
        unfold gAdd
        dsimp only
        rw [rdL_of ga3, rdL_of gb]
        dsimp only
        rw [line_of (by rw [List.length_reverse, lF]; show 1 + F.length ≤ _; omega)]
        show (h3.al _).Wp _ _
        rw [w_al]
        refine ⟨by omega, _, _, rfl, new_get _ (by omega), _, new_get _ (by omega), rfl, ((ga1.trans gb1).trans (Gr.new _)), Nat.lt_succ_self _⟩
      with_reducible refine w_for (r.enc :: (TT.encs F).reverse) (fun i ρ h2 => ∃ (s6 : Option W) (mt : TT), ρ = [some (.int m), some (.ref n), some (.int m), some (.ref h.nx), some r.enc, some mt.enc, s6] ∧ mt = ((r :: F.reverse).take i).foldl (fun acc x => .mk m [x, acc]) b ∧ mt.ok ∧ Gr noM 3 h' h2 ∧ ∃ l, h2.get l = some (.lst (r.enc :: (TT.encs F).reverse)) ∧ l < h2.nx ∧ fi [some (.int m), some (.ref n), some (.int m), some (.ref h.nx), some r.enc, some b.enc, none] h' = .ok (srcL l) h2) ?_ ?_ ?_ ?_
      · rw [List.length_cons, List.length_reverse, lF]; omega
      · cases e : fi [some (.int m), some (.ref n), some (.int m), some (.ref h.nx), some r.enc, some b.enc, none] h' with
        | no => rw [e] at src; exact src.elim
        | ex x hx => rw [e] at src; exact src.elim
        | ok sr hx =>
          rw [e] at src
          obtain ⟨l, gl, rfl, grx, ll⟩ := src
          refine ⟨⟨none, b, rfl, rfl, ob, grx, l, gl, ll, rfl⟩, ?_⟩
          rintro i ρ h2 ⟨_, mt, _, _, _, _, l', gl', _, el⟩
          have : srcL l = srcL l' ∧ hx = h2 := by
            injection el with z1 z2
            exact ⟨z1, z2⟩
          rw [this.1]
          exact srcL_at (rdL_of gl') i
      · rintro i w ρ h2 ew ⟨s6, mt, rfl, em, om, gr2, l, gl, ll, el⟩
        have ei : (r :: F.reverse)[i]? = some ((r :: F.reverse)[i]?.getD b) ∧ w = ((r :: F.reverse)[i]?.getD b).enc := by
          have z : (r.enc :: (TT.encs F).reverse) = (r :: F.reverse).map TT.enc := by rw [TT.encs_map, ← List.map_reverse]; rfl
          rw [z, List.getElem?_map] at ew
          cases e : (r :: F.reverse)[i]? with
          | none => rw [e] at ew; cases ew
          | some t => rw [e] at ew; cases ew; exact ⟨rfl, rfl⟩
        obtain ⟨e1, rfl⟩ := ei
        have xo : ((r :: F.reverse)[i]?.getD b).ok := by
          have mm := List.mem_of_getElem? e1
          rcases List.mem_cons.mp mm with z | z
          · rw [z]; exact ro
          · have z := List.mem_reverse.mp z
            have all : ∀ (l : List TT), TT.oks l → ∀ t ∈ l, t.ok := by
              intro l
              induction l with
              | nil => intro _ t ht; cases ht
              | cons c l ih =>
                intro o t ht
                obtain ⟨o1, o2⟩ : c.ok ∧ TT.oks l := o
                rcases List.mem_cons.mp ht with rfl | ht
                · exact o1
                · exact ih o2 t ht
            exact all F oF _ z
        generalize (r :: F.reverse)[i]?.getD b = t at e1 xo ⊢
        rw [w_gN]
        w_up
        refine ⟨enc_nc xo, enc_nc om, rfl, ?_⟩
        refine Res.Wp.mono (mk_wp (d := d) (w := .tup [t.enc, mt.enc]) (k := m) (ws := [t.enc, mt.enc]) rfl rfl (fun _ => .inl rfl)) (fun u hx z => ?_) (fun _ _ z => z.elim)
        obtain ⟨rfl, rfl⟩ := z
        refine ⟨_, .mk m [t, mt], rfl, ?_, ⟨xo, om, trivial⟩, gr2, l, gl, ll, el⟩
        rw [List.take_add_one, e1, List.foldl_append, ← em]
        rfl
      · rintro ρ h2 ⟨s6, mt, rfl, em, om, gr2, l, gl, ll, el⟩
        have ln : (r.enc :: (TT.encs F).reverse).length = (r :: F.reverse).length := by rw [List.length_cons, List.length_cons, List.length_reverse, List.length_reverse, lF]
        rw [ln, List.take_length] at em
        w_up
        rw [unl_nil lk' (gr2.lk.trans lk')]
        refine ⟨enc_nc om, ?_⟩
        have e2 : mt = comb2 m a b := by
          rw [em, eq, comb2_no c]
          show F.reverse.foldl (fun acc x => TT.mk m [x, acc]) (.mk m [r, b]) = _
          rw [List.foldl_reverse]
        rw [e2]
        exact q h2 ((gr.trans gr2).mono (by omega) fun _ _ z => z)
    cases r with
    | lf w =>
      obtain ⟨s, rr, e, ne⟩ : LfW w := ro
      have e2 : (TT.lf w).enc = .tup (.str s :: rr) := e
      rw [e2]
      refine wp_eq (ix_t (atI_0 _ _)) (wp_eq (ne false h') ?_)
      w_up
      have o := out rfl
      rw [e2] at o
      exact o
    | mk k2 ks =>
      have e2 : (TT.mk k2 ks).enc = .tup [.str "make", .int k2, .tup (TT.encs ks)] := rfl
      rw [e2]
      refine wp_eq (ix_t (atI_0 _ _)) (wp_eq eq_make ?_)
      w_up
      refine wp_eq (ix_t (w := .int k2) (atI_n (i := 1) rfl)) ?_
      w_up
      have tl := two_len (m := m) (k := k2) (ks := ks)
      cases c1 : k2 == m with
      | false =>
        rw [c1, Bool.false_and] at tl
        w_up
        have o := out tl.symm
        rw [e2] at o
        exact o
      | true =>
        rw [c1, Bool.true_and] at tl
        w_up
        refine wp_eq (ix_t (w := .tup (TT.encs ks)) (atI_n (i := 2) rfl)) ?_
        rw [len_t, encs_len]
        w_up
        rw [tl]
        cases c2 : (TT.mk k2 ks).two m with
        | false =>
          w_up
          have o := out c2
          rw [e2] at o
          exact o
        | true =>
          obtain ⟨x, y, exy⟩ := TT.two_iff c2
          cases exy
          have ok2 : x.ok ∧ (y.ok ∧ True) := ro
          have e3 : TT.encs [x, y] = [x.enc, y.enc] := rfl
          have sxy : (TT.mk m [x, y]).sz = x.sz + (y.sz + 0) + 1 := rfl
          w_up
          rw [e3]
          refine ⟨chk_lst gF, wp_eq (ix_t (w := .tup [x.enc, y.enc]) (atI_n (i := 2) rfl)) (wp_eq (ix_t (atI_0 _ _)) (w_app gF (by omega) ?_))⟩
          refine wp_eq (ix_t (w := .tup [x.enc, y.enc]) (atI_n (i := 2) rfl)) (wp_eq (ix_t (w := y.enc) (atI_n (i := 1) rfl)) ?_)
          refine ⟨y.sz, by omega, F ++ [x], y, rfl, ?_, ok2.2.1, TT.oks_app oF ⟨ok2.1, trivial⟩, rfl, ?_, ?_, nx', ?_⟩
          · rw [get_set (by omega), if_pos rfl, TT.encs_map, TT.encs_map, List.map_append]
            rfl
          · rw [List.length_append]
            show F.length + 1 + _ ≤ _
            omega
          · rw [eq, List.foldr_append, comb2_two]
            rfl
          · exact ⟨gr.le, gr.lt, fun i hi mm => by rw [get_set (by omega), if_neg (by omega)]; exact gr.old i hi mm, gr.lk⟩
end
end L37
namespace EV
open PySem
theorem w_dl {fo : FE} {fl : FO} {ρ : Rho} {h : Hpe} {D : Po} : (sDl fo fl ρ h).Wp D = (fo ρ h).Wp (fun w h1 => (fl ρ h1).Wp (fun lo h2 => ∃ n ws, w = .ref n ∧ h2.get n = some (.lst ws) ∧ D.nx ρ (h2.set n (.lst (ws.take (HT.sIx ws.length 0 lo))))) (fun x h => D.ex x ρ h)) (fun x h => D.ex x ρ h) := by
  unfold sDl
  rw [wp_bindS]
  congr 1
  funext w h1
  rw [wp_bindS]
  congr 1
  funext lo h2
  cases w with
  | ref n =>
    dsimp only
    cases e : h2.get n with
    | none =>
      refine propext ⟨fun z => z.elim, ?_⟩
      rintro ⟨k, ws, e1, e2, _⟩
      cases e1
      rw [e] at e2
      cases e2
    | some o =>
      cases o with
      | lst ws =>
        refine propext ⟨fun z => ⟨n, ws, rfl, e, z⟩, ?_⟩
        rintro ⟨k, vs, e1, e2, z⟩
        cases e1
        rw [e] at e2
        cases e2
        exact z
      | _ =>
        refine propext ⟨fun z => z.elim, ?_⟩
        rintro ⟨k, ws, e1, e2, _⟩
        cases e1
        rw [e] at e2
        cases e2
  | _ =>
    refine propext ⟨fun z => z.elim, ?_⟩
    rintro ⟨k, ws, e1, _⟩
    cases e1
theorem cut_fr {ws : List W} {k : Nat} : cutW ws (some (k : Int)) none = ws.drop k := by
  unfold cutW
  rw [HT.sIx_nat, HT.sIx_none]
  rcases Nat.le_total k ws.length with q | q
  · rw [Nat.min_eq_left q, List.take_of_length_le (by rw [List.length_drop]; omega)]
  · rw [Nat.min_eq_right q, Nat.sub_self, List.take_zero, List.drop_of_length_le q]
theorem cut_t {ws : List W} {k : Nat} : cutW ws none (some (k : Int)) = ws.take k := by
  unfold cutW
  rw [HT.sIx_nat, HT.sIx_none, List.drop_zero, Nat.sub_zero]
  rcases Nat.le_total k ws.length with q | q
  · rw [Nat.min_eq_left q]
  · rw [Nat.min_eq_right q, List.take_of_length_le (Nat.le_refl _), List.take_of_length_le q]
theorem take_ix {ws : List W} {k : Nat} : ws.take (HT.sIx ws.length 0 (some (k : Int))) = ws.take k := by
  rw [HT.sIx_nat]
  rcases Nat.le_total k ws.length with q | q
  · rw [Nat.min_eq_left q]
  · rw [Nat.min_eq_right q, List.take_of_length_le (Nat.le_refl _), List.take_of_length_le q]
theorem fstep_szs {m : Int} {S : List TT} {t : TT} : TT.szs (fstep m S t) ≤ TT.szs S + 1 := by
  cases t with
  | lf w =>
    show TT.szs (S ++ [.lf w]) ≤ _
    rw [TT.szs_app]
    exact Nat.le_refl _
  | mk k ks =>
    show TT.szs (S.take (S.length - ks.length) ++ [cmk m k (S.drop (S.length - ks.length))]) ≤ _
    rw [TT.szs_app]
    have e := TT.szs_app (S.take (S.length - ks.length)) (S.drop (S.length - ks.length))
    rw [List.take_append_drop] at e
    show _ + ((cmk m k _).sz + 0) ≤ _
    rw [cmk_sz]
    omega
theorem TT.oks_takedrop {S : List TT} (n : Nat) (o : TT.oks S) : TT.oks (S.take n) ∧ TT.oks (S.drop n) := by
  rw [← List.take_append_drop n S] at o
  exact TT.oks_l o
theorem fstep_ok {m : Int} {S : List TT} {t : TT} (o : TT.oks S) (ot : t.ok) : TT.oks (fstep m S t) := by
  cases t with
  | lf w => exact TT.oks_app o ⟨ot, trivial⟩
  | mk k ks =>
    obtain ⟨a, b⟩ := TT.oks_takedrop (S.length - ks.length) o
    exact TT.oks_app a ⟨cmk_ok m k _ b, trivial⟩
end EV
namespace L37
open PySem EV
section
local macro_rules | `(tactic| w_up) => `(tactic| simp only [w_seq, w_nil, w_rt, w_rtN, w_ex, w_as, w_if, w_par, w_rs, w_au, w_v, w_k, w_aN, w_aC, w_e2, w_tup, w_lst, w_cl, w_cl0, w_bl, w_asB, w_asT, w_tNt, w_tAn, w_tOr, w_tYs, w_eIf, w_eAn, w_eNtT, w_eOrT, w_oS, w_oN, w_eIs, w_eIs2, w_mt, w_mt0, wp_ok, wp_exc, List.getElem?_cons_zero, List.getElem?_cons_succ, List.set_cons_zero, List.set_cons_succ, Option.some.injEq, exists_eq_left', nc_int, nc_bl, nc_tup, nc_ref, nc_non, nc_str, true_and, and_true, List.length_cons, List.length_nil, List.map_cons, List.map_nil, W.bl.injEq, W.int.injEq, Bool.not_true, Bool.not_false, Bool.not_not, Bool.false_eq_true, if_true, if_false, iw_tup, iw_int, iw_bl, iw_str, iw_non, tr_bl, tr_int, tr_tup, tr_non, Bool.or_true, Bool.or_false, Bool.true_or, wipeR, qe_bl, qe_int, qe_non, isN_f, isN_t, beq_self_eq_true, bne_self_eq_false, Bool.false_bne, Bool.true_bne, o_gI, o_gI0, o_gB0, o_mulI, add_ii, o_mulW, o_addW, wd_fold, nc_wd, tr_wd, w_sl, sl_wd, cut_toN, cut_frN, qe_wd, len_wd])
variable {d : Nat} {h : Hpe}
theorem cm_wp {n : Nat} {m k : Int} {ks : List TT} (ok : TT.oks ks) (sz : TT.szs ks ≤ 20000) (gn : h.get n = some (.lst (TT.encs ks))) (hn : n < h.nx) (nx : h.nx ≤ 10000000) (lk : h.lk = []) :
    (callE (d + 2) 6 [.int k, .ref n, .int m] h).Wp (fun u h' => u = (cmk m k ks).enc ∧ Gr noM 10 h h') (fun _ _ => False) := by
  rw [callE_at, b6, run_eq]
  show (F__combed_making (callE (d + 1)) [some (.int k), some (.ref n), some (.int m), none, none, none, none] h).Wp _
  unfold F__combed_making
  rw [w_seq]
  have plain : ∀ D : Po, cmk m k ks = .mk k ks → D.rt (TT.mk k ks).enc h → ((sSeq (sRt (eCl 2 (callE (d + 1) 4) (aC (eV 0) (aC (eV 1) aN)))) sNil) [some (.int k), some (.ref n), some (.int m), none, none, none, none] h).Wp D := by
    intro D e q
    w_up
    refine Res.Wp.mono (mk_wp (d := d) (w := .ref n) (k := k) (ws := TT.encs ks) (rdL_of gn) rfl (fun _ => .inr rfl)) (fun u hx z => ?_) (fun _ _ z => z.elim)
    obtain ⟨rfl, rfl⟩ := z
    exact q
  rw [w_if]
  simp only [w_tOr, w_asB, w_e2, w_v, List.getElem?_cons_zero, List.getElem?_cons_succ, Option.some.injEq, exists_eq_left', nc_int, nc_ref, true_and, qe_int, wp_ok]
  cases c : k == m with
  | false =>
    have km : k ≠ m := beq_eq_false_iff_ne.mp c
    have e : cmk m k ks = .mk k ks := by
      unfold cmk
      split
      · rw [if_neg km]
      · rfl
    have p := fun D => plain D e
    simp only [c, Bool.bne_false, Bool.bne_true, W.bl.injEq, exists_eq_left', Bool.not_false, Bool.true_or, if_true, Bool.true_bne, Bool.false_bne]
    refine p _ ?_
    rw [e]
    exact ⟨rfl, Gr.refl⟩
  | true =>
    have km : k = m := beq_iff_eq.mp c
    subst km
    simp only [c, Bool.bne_false, Bool.bne_true, W.bl.injEq, exists_eq_left', Bool.not_true, Bool.false_or, if_true, Bool.true_bne, Bool.false_bne]
    simp only [w_bl, w_aN, w_aC, w_v, w_k, List.getElem?_cons_zero, List.getElem?_cons_succ, Option.some.injEq, exists_eq_left', nc_int, nc_ref, true_and, wp_ok]
    rw [len_l gn, encs_len]
    simp only [wp_ok, qe_int, W.bl.injEq, exists_eq_left', Bool.false_bne, Bool.true_bne]
    rw [show ((((ks.length : Nat) : Int) == 2)) = (TT.mk k ks).two k by have := two_len (m := k) (k := k) (ks := ks); rw [c, Bool.true_and] at this; exact this]
    cases c2 : (TT.mk k ks).two k with
    | false =>
      have e : cmk k k ks = .mk k ks := by
        unfold cmk
        split
        · rename_i a b
          have : (k == k) = false := c2
          rw [c] at this
          cases this
        · rfl
      w_up
      refine Res.Wp.mono (mk_wp (d := d) (w := .ref n) (k := k) (ws := TT.encs ks) (rdL_of gn) rfl (fun _ => .inr rfl)) (fun u hx z => ?_) (fun _ _ z => z.elim)
      obtain ⟨rfl, rfl⟩ := z
      rw [e]
      exact ⟨rfl, Gr.refl⟩
    | true =>
      obtain ⟨a, b, eab⟩ := TT.two_iff c2
      cases eab
      have e : cmk k k [a, b] = comb2 k a b := by
        show (if k = k then comb2 k a b else .mk k [a, b]) = _
        rw [if_pos rfl]
      have o : a.ok ∧ (b.ok ∧ True) := ok
      have s : a.sz + (b.sz + 0) ≤ 20000 := sz
      simp only [Bool.not_true, Bool.not_false, Bool.false_eq_true, if_false, if_true]
      rw [w_nil]
      refine cm_two (f := 0) (s5 := none) (s6 := none) o.1 o.2.1 (by omega) gn hn nx lk trivial fun h' gr => ?_
      rw [e]
      exact ⟨rfl, gr⟩
end
end L37
namespace L37
open PySem EV
section
local macro_rules | `(tactic| w_up) => `(tactic| simp only [w_seq, w_nil, w_rt, w_rtN, w_ex, w_as, w_if, w_par, w_rs, w_au, w_v, w_k, w_aN, w_aC, w_e2, w_tup, w_lst, w_cl, w_cl0, w_bl, w_asB, w_asT, w_tNt, w_tAn, w_tOr, w_tYs, w_eIf, w_eAn, w_eNtT, w_eOrT, w_oS, w_oN, w_eIs, w_eIs2, w_mt, w_mt0, wp_ok, wp_exc, List.getElem?_cons_zero, List.getElem?_cons_succ, List.set_cons_zero, List.set_cons_succ, Option.some.injEq, exists_eq_left', nc_int, nc_bl, nc_tup, nc_ref, nc_non, nc_str, true_and, and_true, List.length_cons, List.length_nil, List.map_cons, List.map_nil, W.bl.injEq, W.int.injEq, Bool.not_true, Bool.not_false, Bool.not_not, Bool.false_eq_true, if_true, if_false, iw_tup, iw_int, iw_bl, iw_str, iw_non, tr_bl, tr_int, tr_tup, tr_non, Bool.or_true, Bool.or_false, Bool.true_or, wipeR, qe_bl, qe_int, qe_non, isN_f, isN_t, beq_self_eq_true, bne_self_eq_false, Bool.false_bne, Bool.true_bne, o_gI, o_gI0, o_gB0, o_mulI, add_ii, o_mulW, o_addW, wd_fold, nc_wd, tr_wd, w_sl, sl_wd, cut_toN, cut_frN, qe_wd, len_wd])
variable {d : Nat} {h : Hpe}
theorem enc_at {l : List TT} {i : Nat} {w : W} (e : (TT.encs l)[i]? = some w) : ∃ t, l[i]? = some t ∧ w = t.enc := by
  rw [TT.encs_map, List.getElem?_map] at e
  cases q : l[i]? with
  | none => rw [q] at e; cases e
  | some t => rw [q] at e; cases e; exact ⟨t, rfl, rfl⟩
theorem enc_take {l : List TT} {n : Nat} : (TT.encs l).take n = TT.encs (l.take n) := by
  rw [TT.encs_map, TT.encs_map, List.map_take]
theorem enc_drop {l : List TT} {n : Nat} : (TT.encs l).drop n = TT.encs (l.drop n) := by
  rw [TT.encs_map, TT.encs_map, List.map_drop]
theorem folded_wp {t : TT} {m : Int} (ok : t.ok) (sz : t.sz ≤ 20000) (nx : h.nx ≤ 1000000) (lk : h.lk = []) :
    (callE (d + 4) 3 [t.enc, .clo 24 [], .clo 25 [.int m]] h).Wp (fun u h' => u = (t.cmb m).enc ∧ Gr noM (3 + 11 * t.sz) h h') (fun _ _ => False) := by
  rw [callE_at, b3, run_eq]
  show (F_folded (callE (d + 3)) [some t.enc, some (.clo 24 []), some (.clo 25 [.int m]), none, none, none, none] h).Wp _
  unfold F_folded
  rw [w_seq]
  w_up
  rw [w_un]
  refine ⟨rfl, by omega, ?_⟩
  have gv := new_get (h := h) (.lst []) (by omega)
  have g1 : Gr noM 1 h (h.new (.lst [])) := Gr.new _
  have x1 : (h.new (.lst [])).nx = h.nx + 1 := rfl
  generalize h.new (.lst []) = h1 at gv g1 x1 ⊢
  have lk1 := g1.lk.trans lk
  have pl : (TT.encs t.post).length = t.sz := by rw [TT.encs_map, List.length_map, TT.post_len]
  have po := TT.post_ok t ok
  have c2 : ∀ Q : W → Hpe → Prop, (∀ h2, h2.get h1.nx = some (.lst (TT.encs t.post)) → Gr noM 2 h1 h2 → h1.nx < h2.nx → Q (.ref h1.nx) h2) → (callE (d + 3) 2 [t.enc] h1).Wp Q (fun _ _ => False) := by
    intro Q q
    rw [callE_at, b2]
    refine (occ_wp (h := h1) ok sz (by omega)).mono (fun w h2 z => ?_) (fun _ _ z => z)
    obtain ⟨rfl, g, gr, nl⟩ := z
    exact q h2 g gr nl
  with_reducible refine w_for (TT.encs t.post) (fun i ρ h' => ∃ (s4 s5 s6 : Option W) (S : List TT), ρ = [some t.enc, some (.clo 24 []), some (.clo 25 [.int m]), some (.ref h.nx), s4, s5, s6] ∧ S = (t.post.take i).foldl (fstep m) [] ∧ h'.get h.nx = some (.lst (TT.encs S)) ∧ TT.oks S ∧ TT.szs S ≤ i ∧ i ≤ t.sz ∧ Gr noM (3 + 11 * i) h h' ∧ h'.get h1.nx = some (.lst (TT.encs t.post)) ∧ h1.nx < h'.nx) ?_ ?_ ?_ ?_
  · rw [pl]; omega
  · refine w_iL ?_
    w_up
    refine ⟨enc_nc ok, ?_⟩
    refine (c2 _ fun h2 g gr nl => ?_).mono (fun _ _ z => z) (fun _ _ z => z.elim)
    refine ⟨h1.nx, _, rfl, g, ⟨none, none, none, [], rfl, rfl, (gr.old _ (by omega) fun z => z).trans gv, trivial, Nat.zero_le _, Nat.zero_le _, (g1.trans gr).mono (by omega) fun _ _ z => z, g, nl⟩, ?_⟩
    rintro i ρ h3 ⟨_, _, _, _, _, _, _, _, _, _, _, g3, _⟩
    exact srcL_at (rdL_of g3) i
  · rintro i w ρ h' ew ⟨s4, s5, s6, S, rfl, eS, gS, oS', szS, le, gr, gp, nl⟩
    obtain ⟨o, eo, rfl⟩ := enc_at ew
    have oo := po o (List.mem_of_getElem? eo)
    have i1 : i < t.sz := by rw [← TT.post_len]; exact (List.getElem?_eq_some_iff.mp eo).1
    have tk : (t.post.take (i + 1)).foldl (fstep m) [] = fstep m S o := by rw [List.take_add_one, eo, List.foldl_append, eS]; rfl
    have lS := TT.szs_len S
    have grl := gr.lt
    have gle := gr.le
    have oN' := fstep_ok (m := m) oS' oo
    have sN' := fstep_szs (m := m) (S := S) (t := o)
    rw [w_gN]
    w_up
    refine ⟨enc_nc oo, ?_⟩
    cases o with
    | lf w =>
      obtain ⟨s, r, e, ne⟩ : LfW w := oo
      have e2 : (TT.lf w).enc = .tup (.str s :: r) := e
      rw [e2]
      refine wp_eq (ix_t (atI_0 _ _)) (wp_eq (ne false h') ?_)
      w_up
      refine ⟨chk_lst gS, ?_⟩
      rw [w_clV]
      refine ⟨_, rfl, ?_⟩
      w_up
      have l24 : callE (d + 3) 24 [.tup (.str s :: r)] h' = .ok (.tup (.str s :: r)) h' := by
        rw [callE_at, b24, arG_eq (n := 1) (ws := [.tup (.str s :: r)]) rfl]
        rfl
      refine wp_eq l24 (w_app gS (by rw [encs_len]; omega) ?_)
      refine ⟨_, _, _, S ++ [.lf w], rfl, ?_, ?_, oN', by have z : TT.szs (S ++ [.lf w]) ≤ TT.szs S + 1 := sN'; omega, by omega, ?_, ?_, nl⟩
      · rw [tk]; rfl
      · rw [get_set (by omega), if_pos rfl, TT.encs_map, TT.encs_map, List.map_append, ← e2]
        rfl
      · exact ⟨gr.le, by show h'.nx ≤ _; omega, fun j hj mm => by rw [get_set (by omega), if_neg (by omega)]; exact gr.old j hj mm, gr.lk⟩
      · rw [get_set (by omega), if_neg (by omega)]
        exact gp
    | mk k ks =>
      have e2 : (TT.mk k ks).enc = .tup [.str "make", .int k, .tup (TT.encs ks)] := rfl
      rw [e2]
      refine wp_eq (ix_t (atI_0 _ _)) (wp_eq eq_make ?_)
      w_up
      -- what stands behind
      have sp : t.post = t.post.take i ++ .mk k ks :: t.post.drop (i + 1) := by
        have hi : i < t.post.length := by rw [TT.post_len]; exact i1
        have z := (List.take_append_drop i t.post).symm
        rw [List.drop_eq_getElem_cons hi] at z
        rw [(List.getElem?_eq_some_iff.mp eo).2] at z
        exact z
      obtain ⟨A, eA⟩ := TT.post_split t sp
      have eS2 : S = A.foldl (fstep m) [] ++ TT.cmbs m ks := by rw [eS, eA, List.foldl_append, fold_posts]
      have lks : (TT.cmbs m ks).length = ks.length := by rw [TT.cmbs_map, List.length_map]
      have lSk : S.length = (A.foldl (fstep m) []).length + ks.length := by rw [eS2, List.length_append, lks]
      have cut : ((TT.encs S).length : Int) - ((TT.encs ks).length : Int) = ((S.length - ks.length : Nat) : Int) := by rw [encs_len, encs_len]; omega
      rw [len_l gS]
      w_up
      refine wp_eq (ix_t (w := .tup (TT.encs ks)) (atI_n (i := 2) rfl)) ?_
      rw [len_t]
      w_up
      rw [cut]
      rw [w_clV]
      refine ⟨_, rfl, ?_⟩
      w_up
      have ev : slW (.ref h.nx) (some ((S.length - ks.length : Nat) : Int)) none h' = h'.al (.lst (TT.encs (S.drop (S.length - ks.length)))) := by
        show (match rdL h' h.nx with | some ws => h'.al (.lst (cutW ws _ _)) | none => .no) = _
        rw [rdL_of gS]
        dsimp only
        rw [cut_fr, enc_drop]
      refine wp_eq (ix_t (w := .int k) (atI_n (i := 1) rfl)) ?_
      rw [ev, w_al]
      refine ⟨by omega, ?_⟩
      have gd := new_get (h := h') (.lst (TT.encs (S.drop (S.length - ks.length)))) (by omega)
      have gd1 : Gr noM 1 h' (h'.new (.lst (TT.encs (S.drop (S.length - ks.length))))) := Gr.new _
      have xd : (h'.new (.lst (TT.encs (S.drop (S.length - ks.length))))).nx = h'.nx + 1 := rfl
      generalize h'.new (.lst (TT.encs (S.drop (S.length - ks.length)))) = h2 at gd gd1 xd ⊢
      have od := (TT.oks_takedrop (S.length - ks.length) oS').2
      have sd := TT.szs_app (S.take (S.length - ks.length)) (S.drop (S.length - ks.length))
      rw [List.take_append_drop] at sd
      have l25 : (callE (d + 3) 25 ([.int k, .ref h'.nx] ++ [.int m]) h2).Wp (fun u h3 => u = (cmk m k (S.drop (S.length - ks.length))).enc ∧ Gr noM 10 h2 h3) (fun _ _ => False) := by
        rw [callE_at, b25]
        show (arG 3 _ [W.int k, W.ref h'.nx, W.int m] h2).Wp _ _
        rw [arG_eq (n := 3) (ws := [W.int k, W.ref h'.nx, W.int m]) rfl, run_eq]
        show (F_l25 (callE (d + 2)) [some (.int k), some (.ref h'.nx), some (.int m)] h2).Wp _
        unfold F_l25
        w_up
        refine (cm_wp (d := d) od (by omega) gd (by omega) (by omega) ((gd1.lk.trans gr.lk).trans lk)).mono (fun u hx z => ?_) (fun _ _ z => z.elim)
        obtain ⟨rfl, g⟩ := z
        exact ⟨rfl, g⟩
      refine l25.mono (fun u h3 z => ?_) (fun _ _ z => z.elim)
      obtain ⟨rfl, gr3⟩ := z
      have gS3 := ((gd1.trans gr3).old h.nx (by omega) fun z => z).trans gS
      have gp3 := ((gd1.trans gr3).old h1.nx nl fun z => z).trans gp
      have n3 := (gd1.trans gr3).lt
      have n3' := (gd1.trans gr3).le
      rw [w_dl]
      w_up
      refine ⟨h.nx, _, rfl, gS3, ?_⟩
      rw [take_ix, enc_take]
      have gs4 : ∀ j, j ≠ h.nx → (h3.set h.nx (.lst (TT.encs (S.take (S.length - ks.length))))).get j = h3.get j := fun j mm => by rw [get_set (by omega), if_neg mm]
      have gt4 : (h3.set h.nx (.lst (TT.encs (S.take (S.length - ks.length))))).get h.nx = some (.lst (TT.encs (S.take (S.length - ks.length)))) := by rw [get_set (by omega), if_pos rfl]
      have x4 : (h3.set h.nx (.lst (TT.encs (S.take (S.length - ks.length))))).nx = h3.nx := rfl
      have lk4 : (h3.set h.nx (.lst (TT.encs (S.take (S.length - ks.length))))).lk = h3.lk := rfl
      generalize h3.set h.nx (.lst (TT.encs (S.take (S.length - ks.length)))) = h4 at gs4 gt4 x4 lk4 ⊢
      refine ⟨chk_lst gt4, enc_nc (cmk_ok m k _ od), w_app gt4 (by rw [encs_len, List.length_take]; omega) ?_⟩
      refine ⟨_, _, _, fstep m S (.mk k ks), rfl, tk.symm, ?_, oN', by omega, by omega, ?_, ?_, by show h1.nx < h4.nx; omega⟩
      · rw [get_set (by omega), if_pos rfl]
        show _ = some (Ob.lst (TT.encs (S.take _ ++ [cmk m k _])))
        rw [TT.encs_map, TT.encs_map, List.map_append]
        rfl
      · refine ⟨by show h.nx ≤ h4.nx; omega, by show h4.nx ≤ _; omega, fun j hj mm => ?_, ?_⟩
        · rw [get_set (by omega), if_neg (by omega), gs4 j (by omega)]
          exact ((gd1.trans gr3).old j (by omega) fun z => z).trans (gr.old j hj mm)
        · show h4.lk = _
          rw [lk4]
          exact (gd1.trans gr3).lk.trans gr.lk
      · rw [get_set (by omega), if_neg (by omega), gs4 _ (by omega)]
        exact gp3
  · rintro ρ h' ⟨s4, s5, s6, S, rfl, eS, gS, oS', szS, le, gr, gp, nl⟩
    have lk' := gr.lk.trans lk
    rw [pl] at eS gr
    rw [List.take_of_length_le (by rw [TT.post_len]; exact Nat.le_refl _), fold_post] at eS
    subst eS
    w_up
    rw [unl_nil lk1 lk']
    have gS : h'.get h.nx = some (.lst [(t.cmb m).enc]) := gS
    refine wp_eq (ix_lst gS (atI_0 _ _)) ⟨rfl, gr⟩
end
end L37
namespace EV
open PySem
mutual
def TT.lvs : TT → List W
  | .lf w => [w]
  | .mk _ ks => TT.lvss ks
def TT.lvss : List TT → List W
  | [] => []
  | k :: ks => k.lvs ++ TT.lvss ks
end
def lmax : List Nat → Nat
  | [] => 0
  | n :: l => max n (lmax l)
def bcomb : List Nat → Nat
  | [x, y] => x + y + 1
  | l => lmax l + 1
mutual
def TT.bd : TT → Nat
  | .lf _ => 0
  | .mk _ ks => bcomb (TT.bls ks)
def TT.bls : List TT → List Nat
  | [] => []
  | k :: ks => k.bd :: TT.bls ks
end
theorem bcomb_max : ∀ l : List Nat, lmax l + 1 ≤ bcomb l
  | [] => Nat.le_refl _
  | [x] => Nat.le_refl _
  | [x, y] => by
    show max x (max y 0) + 1 ≤ x + y + 1
    omega
  | x :: y :: z :: l => Nat.le_refl _
theorem comb2_lvs (m : Int) : ∀ (n : Nat) (a b : TT), a.sz ≤ n → (comb2 m a b).lvs = a.lvs ++ b.lvs ∧ (comb2 m a b).bd = a.bd + b.bd + 1 := by
  intro n
  induction n with
  | zero => intro a b l; have := a.sz_pos; omega
  | succ n ih =>
    intro a b l
    cases c : a.two m with
    | true =>
      obtain ⟨x, y, rfl⟩ := TT.two_iff c
      have s1 : (TT.mk m [x, y]).sz = x.sz + (y.sz + 0) + 1 := rfl
      obtain ⟨e1, e2⟩ := ih y b (by omega)
      rw [comb2_two]
      refine ⟨?_, ?_⟩
      · show x.lvs ++ ((comb2 m y b).lvs ++ []) = (x.lvs ++ (y.lvs ++ [])) ++ b.lvs
        rw [e1]
        simp
      · show x.bd + (comb2 m y b).bd + 1 = (x.bd + y.bd + 1) + b.bd + 1
        rw [e2]
        omega
    | false =>
      rw [comb2_no c]
      refine ⟨?_, rfl⟩
      show a.lvs ++ (b.lvs ++ []) = _
      rw [List.append_nil]
theorem cmk_lvs (m own : Int) (ks : List TT) : (cmk m own ks).lvs = TT.lvss ks ∧ (cmk m own ks).bd = bcomb (TT.bls ks) := by
  unfold cmk
  split
  · rename_i a b
    split
    · obtain ⟨e1, e2⟩ := comb2_lvs m a.sz a b (Nat.le_refl _)
      refine ⟨?_, e2⟩
      show _ = a.lvs ++ (b.lvs ++ [])
      rw [e1, List.append_nil]
    · exact ⟨rfl, rfl⟩
  · exact ⟨rfl, rfl⟩
mutual
theorem TT.cmb_lvs (m : Int) : ∀ t : TT, (t.cmb m).lvs = t.lvs ∧ (t.cmb m).bd = t.bd
  | .lf w => ⟨rfl, rfl⟩
  | .mk k ks => by
    obtain ⟨e1, e2⟩ := cmk_lvs m k (TT.cmbs m ks)
    obtain ⟨e3, e4⟩ := TT.cmbs_lvs m ks
    refine ⟨?_, ?_⟩
    · show (cmk m k (TT.cmbs m ks)).lvs = TT.lvss ks
      rw [e1, e3]
    · show (cmk m k (TT.cmbs m ks)).bd = bcomb (TT.bls ks)
      rw [e2, e4]
theorem TT.cmbs_lvs (m : Int) : ∀ ks : List TT, TT.lvss (TT.cmbs m ks) = TT.lvss ks ∧ TT.bls (TT.cmbs m ks) = TT.bls ks
  | [] => ⟨rfl, rfl⟩
  | k :: ks => by
    obtain ⟨e1, e2⟩ := TT.cmb_lvs m k
    obtain ⟨e3, e4⟩ := TT.cmbs_lvs m ks
    refine ⟨?_, ?_⟩
    · show (k.cmb m).lvs ++ TT.lvss (TT.cmbs m ks) = k.lvs ++ TT.lvss ks
      rw [e1, e3]
    · show (k.cmb m).bd :: TT.bls (TT.cmbs m ks) = k.bd :: TT.bls ks
      rw [e2, e4]
end
structure LfP (w : W) : Prop where
  ok : LfW w
  q : qdat w = true
  n : noRef w = true
  d : dat w = true
  t : tn w ≤ 5
  p : dpW w ≤ 2
def TT.gd (t : TT) : Prop := ∀ w ∈ t.lvs, LfP w
structure EncP (x : TT) : Prop where
  ok : x.ok
  q : qdat x.enc = true
  n : noRef x.enc = true
  d : dat x.enc = true
  t : tn x.enc ≤ 5 * x.sz
  p : dpW x.enc ≤ 2 * x.bd + 2
structure EncsP (ts : List TT) : Prop where
  ok : TT.oks ts
  q : qdats (TT.encs ts) = true
  n : noRefs (TT.encs ts) = true
  d : dats (TT.encs ts) = true
  t : tns (TT.encs ts) ≤ 5 * TT.szs ts
  p : dpWs (TT.encs ts) ≤ 2 * lmax (TT.bls ts) + 2
mutual
theorem TT.gd_p : ∀ t : TT, t.gd → EncP t
  | .lf w, g => by
    obtain ⟨a, b, c, d, e, f⟩ := g w (List.mem_singleton.mpr rfl)
    exact ⟨a, b, c, d, e, f⟩
  | .mk m ks, g => by
    obtain ⟨a, b, c, d, e, f⟩ := TT.gds_p ks g
    refine ⟨a, ?_, ?_, ?_, ?_, ?_⟩
    · have s : qdat (.str "make") = true := by
        show SeqAt.shaped (.str "make") = true
        decide +kernel
      show (qdat (.str "make") && (true && ((qdats (TT.encs ks)) && true))) = true
      rw [s, b]
      rfl
    · show noRef (.tup [.str "make", .int m, .tup (TT.encs ks)]) = true
      rw [noRef_t, noRefs_c, noRefs_c, noRefs_c, noRef_t, c]
      rfl
    · show (true && (true && (dats (TT.encs ks) && true))) = true
      rw [d]
      rfl
    · show (1 + (1 + ((tns (TT.encs ks) + 1) + 0))) + 1 ≤ 5 * (TT.szs ks + 1)
      omega
    · have := bcomb_max (TT.bls ks)
      show max 0 (max 0 (max (dpWs (TT.encs ks) + 1) 0)) + 1 ≤ 2 * bcomb (TT.bls ks) + 2
      omega
theorem TT.gds_p : ∀ ks : List TT, (∀ w ∈ TT.lvss ks, LfP w) → EncsP ks
  | [], _ => ⟨trivial, rfl, rfl, rfl, Nat.le_refl _, Nat.zero_le _⟩
  | k :: ks, g => by
    obtain ⟨a, b, c, d, e, f⟩ := TT.gd_p k fun w m => g w (List.mem_append.mpr (.inl m))
    obtain ⟨a', b', c', d', e', f'⟩ := TT.gds_p ks fun w m => g w (List.mem_append.mpr (.inr m))
    refine ⟨⟨a, a'⟩, ?_, ?_, ?_, ?_, ?_⟩
    · show (qdat k.enc && qdats (TT.encs ks)) = true
      rw [b, b']
      rfl
    · show noRefs (k.enc :: TT.encs ks) = true
      rw [noRefs_c, c, c']
      rfl
    · show (dat k.enc && dats (TT.encs ks)) = true
      rw [d, d']
      rfl
    · show tn k.enc + tns (TT.encs ks) ≤ 5 * (k.sz + TT.szs ks)
      omega
    · show max (dpW k.enc) (dpWs (TT.encs ks)) ≤ 2 * max k.bd (lmax (TT.bls ks)) + 2
      omega
end
theorem TT.cmb_gd {t : TT} {m : Int} (g : t.gd) : (t.cmb m).gd := fun w h => g w (by rw [← (TT.cmb_lvs m t).1]; exact h)
theorem lf_make {w : W} {m : Int} {ws : List W} (l : LfW w) : w ≠ .tup [.str "make", .int m, .tup ws] := by
  rintro rfl
  obtain ⟨s, r, e, q⟩ := l
  cases e
  have := q false Hpe.nil
  rw [eq_make] at this
  cases this
mutual
theorem enc_inj : ∀ (a b : TT), a.ok → b.ok → a.enc = b.enc → a = b
  | .lf w, .lf v, _, _, e => by
    have e : w = v := e
    rw [e]
  | .lf w, .mk m ks, o, _, e => absurd (show w = .tup [.str "make", .int m, .tup (TT.encs ks)] from e) (lf_make o)
  | .mk m ks, .lf w, _, o, e => absurd (show w = .tup [.str "make", .int m, .tup (TT.encs ks)] from e.symm) (lf_make o)
  | .mk m ks, .mk m' ks', o, o', e => by
    have e : W.tup [.str "make", .int m, .tup (TT.encs ks)] = .tup [.str "make", .int m', .tup (TT.encs ks')] := e
    injection e with e
    injection e with _ e
    injection e with e1 e
    injection e1 with e1
    injection e with e2 _
    injection e2 with e2
    rw [e1, encs_inj ks ks' o o' e2]
theorem encs_inj : ∀ (a b : List TT), TT.oks a → TT.oks b → TT.encs a = TT.encs b → a = b
  | [], [], _, _, _ => rfl
  | [], b :: bs, _, _, e => by cases e
  | a :: as, [], _, _, e => by cases e
  | a :: as, b :: bs, o, o', e => by
    have e : a.enc :: TT.encs as = b.enc :: TT.encs bs := e
    injection e with e1 e2
    obtain ⟨x, y⟩ : a.ok ∧ TT.oks as := o
    obtain ⟨x', y'⟩ : b.ok ∧ TT.oks bs := o'
    rw [enc_inj a b x x' e1, encs_inj as bs y y' e2]
end
theorem qe_64 {n : Bool} {a b : W} {h : Hpe} (qa : qdat a = true) (qb : qdat b = true) (da : dpW a ≤ 64) (db : dpW b ≤ 64) : gEq n a b h = .ok (.bl (n != sameW a b)) h := by
  have sh : ∀ w : W, qdat w = true → dpW w ≤ 64 → SeqAt.shaped (dD w) = true := fun w q l => by
    unfold SeqAt.shaped
    rw [lay_dat w q, dep_dat w q]
    exact decide_eq_true (by omega)
  unfold gEq
  rw [toD_dat h 70 a qa (by omega), toD_dat h 70 b qb (by omega)]
  dsimp only
  rw [sh a qa da, sh b qb db]
  show Res.ok (W.bl (n != PyData.eqv (dD a) (dD b))) h = _
  have e : PyData.eqv (dD a) (dD b) = sameW a b := by
    rw [Bool.eq_iff_iff, eqv_dat a b qa qb, sameW_iff]
  rw [e]
mutual
def dN : W → N
  | .tup ws => .node (.tup ws) (dNs ws)
  | w => .leaf w
def dNs : List W → List N
  | [] => []
  | w :: ws => dN w :: dNs ws
end
structure DNP (w : W) : Prop where
  v : (dN w).val = w
  f : (dN w).fro = w
  s : (dN w).sz = tn w
  o : ∀ h, (dN w).ok h
structure DNsP (ws : List W) : Prop where
  v : (dNs ws).map N.val = ws
  f : N.fros (dNs ws) = ws
  s : N.szs (dNs ws) = tns ws
  o : ∀ h, N.oks h (dNs ws)
mutual
theorem dN_p : ∀ w : W, dat w = true → DNP w
  | .tup ws, d => by
    obtain ⟨a, b, c, e⟩ := dNs_p ws d
    exact ⟨rfl, congrArg W.tup b, by show N.szs (dNs ws) + 1 = _; rw [c]; rfl, fun h => ⟨.inl (by rw [a]), e h⟩⟩
  | .non, _ => ⟨rfl, rfl, rfl, fun _ => rfl⟩
  | .bl _, _ => ⟨rfl, rfl, rfl, fun _ => rfl⟩
  | .int _, _ => ⟨rfl, rfl, rfl, fun _ => rfl⟩
  | .str _, _ => ⟨rfl, rfl, rfl, fun _ => rfl⟩
  | .ref _, d => by cases d
  | .df _, d => by cases d
  | .clo _ _, d => by cases d
theorem dNs_p : ∀ ws : List W, dats ws = true → DNsP ws
  | [], _ => ⟨rfl, rfl, rfl, fun _ => trivial⟩
  | w :: ws, d => by
    have d : (dat w && dats ws) = true := d
    obtain ⟨d1, d2⟩ := (Bool.and_eq_true _ _).mp d
    obtain ⟨a, b, c, e⟩ := dN_p w d1
    obtain ⟨a', b', c', e'⟩ := dNs_p ws d2
    refine ⟨?_, ?_, ?_, fun h => ⟨e h, e' h⟩⟩
    · show (dN w).val :: (dNs ws).map N.val = _
      rw [a, a']
    · show (dN w).fro :: N.fros (dNs ws) = _
      rw [b, b']
    · show (dN w).sz + N.szs (dNs ws) = _
      rw [c, c']
      rfl
end
end EV
namespace L37
open PySem EV
section
local macro_rules | `(tactic| w_up) => `(tactic| simp only [w_seq, w_nil, w_rt, w_rtN, w_ex, w_as, w_if, w_par, w_rs, w_au, w_v, w_k, w_aN, w_aC, w_e2, w_tup, w_lst, w_cl, w_cl0, w_bl, w_asB, w_asT, w_tNt, w_tAn, w_tOr, w_tYs, w_eIf, w_eAn, w_eNtT, w_eOrT, w_oS, w_oN, w_eIs, w_eIs2, w_mt, w_mt0, wp_ok, wp_exc, List.getElem?_cons_zero, List.getElem?_cons_succ, List.set_cons_zero, List.set_cons_succ, Option.some.injEq, exists_eq_left', nc_int, nc_bl, nc_tup, nc_ref, nc_non, nc_str, true_and, and_true, List.length_cons, List.length_nil, List.map_cons, List.map_nil, W.bl.injEq, W.int.injEq, Bool.not_true, Bool.not_false, Bool.not_not, Bool.false_eq_true, if_true, if_false, iw_tup, iw_int, iw_bl, iw_str, iw_non, tr_bl, tr_int, tr_tup, tr_non, Bool.or_true, Bool.or_false, Bool.true_or, wipeR, qe_bl, qe_int, qe_non, isN_f, isN_t, beq_self_eq_true, bne_self_eq_false, Bool.false_bne, Bool.true_bne, o_gI, o_gI0, o_gB0, o_mulI, add_ii, o_mulW, o_addW, wd_fold, nc_wd, tr_wd, w_sl, sl_wd, cut_toN, cut_frN, qe_wd, len_wd])
variable {d : Nat} {h : Hpe}
theorem fzAt : FzAt (fun d => callE d 0) (fun d => callE d 1) := ⟨fun d ws h => by show callE (d + 1) 0 ws h = _; rw [callE_at, b0], fun d ws h => by show callE (d + 1) 1 ws h = _; rw [callE_at, b1]⟩
structure NSay (root : N) (t : TT) (h : Hpe) : Prop where
  gd : t.gd
  f : root.fro = t.enc
  o : root.ok h
  s : root.sz ≤ 20000
  z : t.sz ≤ 2000
theorem combed_call {root : N} {t : TT} {m : Int} (s : NSay root t h) (nx : h.nx ≤ 500000) (lk : h.lk = []) :
    ∃ h', callE (d + 6) 5 [root.val, .int m] h = .ok (t.cmb m).enc h' ∧ Gr noM 100000 h h' ∧ (noRef root.val = true → h' = h) := by
  have ok := (TT.gd_p t s.gd).ok
  have z := s.z
  have body : ∀ h, root.ok h → h.nx ≤ 500000 → h.lk = [] → (runB 2 (F_combed (callE (d + 5))) [root.val, .int m] h).Wp (fun u h' => u = (t.cmb m).enc ∧ Gr noM 100000 h h') (fun _ _ => False) := by
    intro h ro nx lk
    obtain ⟨_, _, _, _, _, nv⟩ := N.inst_l ro
    obtain ⟨h1, e1, gr1, _⟩ := fz_call fzAt ro s.s (by omega) lk (d + 3)
    rw [s.f] at e1
    have e1 : callE (d + 5) 0 [root.val] h = .ok t.enc h1 := e1
    rw [run_eq]
    show (F_combed (callE (d + 5)) [some root.val, some (.int m)] h).Wp _
    unfold F_combed
    w_up
    refine ⟨nv, wp_eq e1 ?_⟩
    rw [w_aL (ws := [.clo 24 [], .clo 25 [.int m]]) rfl]
    have l1 := gr1.lt
    refine ⟨rfl, ?_⟩
    refine (folded_wp (d := d + 1) (m := m) ok (by omega) (by omega) (gr1.lk.trans lk)).mono (fun u hx z => ?_) (fun _ _ z => z.elim)
    obtain ⟨rfl, g⟩ := z
    exact ⟨rfl, (gr1.trans g).mono (by omega) fun _ _ z => z⟩
  rw [callE_at, b5]
  cases c : noRef root.val with
  | true =>
    have nr : noRefs [root.val, .int m] = true := by rw [noRefs_c, noRefs_c, c]; rfl
    exact ⟨h, frm_is nr (TT.gd_p _ (TT.cmb_gd s.gd)).n ((body _ (N.nil_of root s.o c) (Nat.zero_le _) rfl).mono (fun _ _ q => q.1) (fun _ _ q => q)) h, Gr.refl, fun _ => rfl⟩
  | false =>
    obtain ⟨u, h', e, rfl, gr⟩ := wp_ex (body h s.o nx lk)
    refine ⟨h', ?_, gr, fun z => by cases z⟩
    unfold frm
    rw [noRefs_c, c]
    exact e
theorem NSay.mono {root : N} {t : TT} {h h' : Hpe} (s : NSay root t h) (gr : Gr noM 100000 h h') : NSay root t h' :=
  ⟨s.gd, s.f, N.ok_mono (fun i hi => gr.old i hi fun z => z) gr.le root s.o, s.s, s.z⟩
theorem alike_call {ra rb : N} {a b : TT} {m : Int} (sa : NSay ra a h) (sb : NSay rb b h) (da : a.bd ≤ 31) (db : b.bd ≤ 31) (nx : h.nx ≤ 300000) (lk : h.lk = []) :
    ∃ h', callE (d + 7) 7 [ra.val, rb.val, .int m] h = .ok (.bl (sameW (a.cmb m).enc (b.cmb m).enc)) h' ∧ Gr noM 200000 h h' ∧ (noRef ra.val = true → noRef rb.val = true → h' = h) := by
  have pa := TT.gd_p _ (TT.cmb_gd (m := m) sa.gd)
  have pb := TT.gd_p _ (TT.cmb_gd (m := m) sb.gd)
  have ba := (TT.cmb_lvs m a).2
  have bb := (TT.cmb_lvs m b).2
  have body : ∀ h, NSay ra a h → NSay rb b h → h.nx ≤ 300000 → h.lk = [] → (runB 3 (F_alike_by (callE (d + 6))) [ra.val, rb.val, .int m] h).Wp (fun u h' => u = .bl (sameW (a.cmb m).enc (b.cmb m).enc) ∧ Gr noM 200000 h h') (fun _ _ => False) := by
    intro h sa sb nx lk
    obtain ⟨_, _, _, _, _, na⟩ := N.inst_l sa.o
    obtain ⟨_, _, _, _, _, nb⟩ := N.inst_l sb.o
    obtain ⟨h1, e1, gr1, _⟩ := combed_call (d := d) (m := m) sa (by omega) lk
    have l1 := gr1.lt
    obtain ⟨h2, e2, gr2, _⟩ := combed_call (d := d) (m := m) (sb.mono gr1) (by omega) (gr1.lk.trans lk)
    rw [run_eq]
    show (F_alike_by (callE (d + 6)) [some ra.val, some rb.val, some (.int m)] h).Wp _
    unfold F_alike_by
    w_up
    refine ⟨na, wp_eq e1 ⟨nb, wp_eq e2 (wp_eq (qe_64 pa.q pb.q (by have := pa.p; omega) (by have := pb.p; omega)) ?_)⟩⟩
    rw [Bool.false_bne]
    exact ⟨rfl, gr1.trans gr2⟩
  rw [callE_at, show (bodies (callE (d + 6))).get 7 = frm (runB 3 (F_alike_by (callE (d + 6)))) from rfl]
  cases c : noRefs [ra.val, rb.val, .int m] with
  | true =>
    have c1 := noRefs_at (i := 0) (w := ra.val) c rfl
    have c2 := noRefs_at (i := 1) (w := rb.val) c rfl
    refine ⟨h, frm_is c rfl ((body _ ⟨sa.gd, sa.f, N.nil_of ra sa.o c1, sa.s, sa.z⟩ ⟨sb.gd, sb.f, N.nil_of rb sb.o c2, sb.s, sb.z⟩ (Nat.zero_le _) rfl).mono (fun _ _ q => q.1) (fun _ _ q => q)) h, Gr.refl, fun _ _ => rfl⟩
  | false =>
    obtain ⟨u, h', e, rfl, gr⟩ := wp_ex (body h sa sb nx lk)
    refine ⟨h', ?_, gr, fun z z' => ?_⟩
    · unfold frm
      rw [c]
      exact e
    · rw [noRefs_c, noRefs_c, z, z'] at c
      cases c
theorem says_own {t : TT} (g : t.gd) (z : t.sz ≤ 2000) : (dN t.enc).val = t.enc ∧ NSay (dN t.enc) t h := by
  obtain ⟨a, b, c, e⟩ := dN_p t.enc (TT.gd_p t g).d
  exact ⟨a, g, b, e h, by rw [c]; have := (TT.gd_p t g).t; omega, z⟩
theorem alike_own {a b : TT} {m : Int} (ga : a.gd) (gb : b.gd) (za : a.sz ≤ 2000) (zb : b.sz ≤ 2000) (da : a.bd ≤ 31) (db : b.bd ≤ 31) (nx : h.nx ≤ 300000) (lk : h.lk = []) :
    callE (d + 7) 7 [a.enc, b.enc, .int m] h = .ok (.bl (sameW (a.cmb m).enc (b.cmb m).enc)) h := by
  obtain ⟨e1, s1⟩ := says_own (h := h) ga za
  obtain ⟨e2, s2⟩ := says_own (h := h) gb zb
  obtain ⟨h', e, _, q⟩ := alike_call (d := d) (m := m) s1 s2 da db nx lk
  rw [e1, e2] at e q
  rw [e, q (TT.gd_p a ga).n (TT.gd_p b gb).n]
theorem combed_own {t : TT} {m : Int} (g : t.gd) (z : t.sz ≤ 2000) (nx : h.nx ≤ 500000) (lk : h.lk = []) :
    callE (d + 6) 5 [t.enc, .int m] h = .ok (t.cmb m).enc h := by
  obtain ⟨e1, s1⟩ := says_own (h := h) g z
  obtain ⟨h', e, _, q⟩ := combed_call (d := d) (m := m) s1 nx lk
  rw [e1] at e q
  rw [e, q (TT.gd_p t g).n]
end
end L37
namespace EV
theorem comb2_assoc (m : Int) : ∀ (n : Nat) (a b c : TT), a.sz ≤ n → comb2 m (comb2 m a b) c = comb2 m a (comb2 m b c) := by
  intro n
  induction n with
  | zero => intro a b c l; have := a.sz_pos; omega
  | succ n ih =>
    intro a b c l
    cases q : a.two m with
    | true =>
      obtain ⟨x, y, rfl⟩ := TT.two_iff q
      have s1 : (TT.mk m [x, y]).sz = x.sz + (y.sz + 0) + 1 := rfl
      rw [comb2_two, comb2_two, comb2_two, ih y b c (by omega)]
    | false => rw [comb2_no q, comb2_two, comb2_no q]
mutual
def TT.mks : TT → Nat
  | .lf _ => 0
  | .mk _ ks => TT.mkss ks + 1
def TT.mkss : List TT → Nat
  | [] => 0
  | k :: ks => k.mks + TT.mkss ks
end
def hd2 : List TT → Nat
  | [a, _] => a.mks
  | _ => 0
mutual
def TT.pot : TT → Nat
  | .lf _ => 0
  | .mk _ ks => hd2 ks + TT.pots ks
def TT.pots : List TT → Nat
  | [] => 0
  | k :: ks => k.pot + TT.pots ks
end
mutual
def TT.no3 : TT → Prop
  | .lf _ => True
  | .mk k ks => k ≠ 3 ∧ TT.no3s ks
def TT.no3s : List TT → Prop
  | [] => True
  | k :: ks => k.no3 ∧ TT.no3s ks
end
mutual
theorem TT.cmb3 : ∀ t : TT, t.no3 → t.cmb 3 = t
  | .lf w, _ => rfl
  | .mk k ks, o => by
    obtain ⟨a, b⟩ : k ≠ 3 ∧ TT.no3s ks := o
    show cmk 3 k (TT.cmbs 3 ks) = _
    rw [TT.cmbs3 ks b]
    unfold cmk
    split
    · rw [if_neg a]
    · rfl
theorem TT.cmbs3 : ∀ ks : List TT, TT.no3s ks → TT.cmbs 3 ks = ks
  | [], _ => rfl
  | k :: ks, o => by
    obtain ⟨a, b⟩ : k.no3 ∧ TT.no3s ks := o
    show k.cmb 3 :: TT.cmbs 3 ks = _
    rw [TT.cmb3 k a, TT.cmbs3 ks b]
end
def top (m k : Int) : List TT → Bool
  | [a, _] => (k == m) && a.two m
  | _ => false
mutual
def TT.spots (m : Int) : TT → List (List Nat)
  | .lf _ => []
  | .mk k ks => (bif top m k ks then [[]] else []) ++ TT.spotss m 0 ks
def TT.spotss (m : Int) : Nat → List TT → List (List Nat)
  | _, [] => []
  | i, k :: ks => (TT.spots m k).map (fun w => i :: w) ++ TT.spotss m (i + 1) ks
end
def TT.mv : List Nat → TT → TT
  | [], .mk k [.mk _ [x, y], z] => .mk k [x, .mk k [y, z]]
  | i :: w, .mk k ks => match ks[i]? with
    | some c => .mk k (ks.set i (TT.mv w c))
    | none => .mk k ks
  | _, t => t
theorem spotss_mem {m : Int} : ∀ (ks : List TT) (i : Nat) (w : List Nat), w ∈ TT.spotss m i ks → ∃ j v c, w = (i + j) :: v ∧ ks[j]? = some c ∧ v ∈ c.spots m
  | [], i, w, h => by cases h
  | k :: ks, i, w, h => by
    rcases List.mem_append.mp (show w ∈ (TT.spots m k).map (fun w => i :: w) ++ TT.spotss m (i + 1) ks from h) with h | h
    · obtain ⟨v, hv, rfl⟩ := List.mem_map.mp h
      exact ⟨0, v, k, rfl, rfl, hv⟩
    · obtain ⟨j, v, c, e, ec, hv⟩ := spotss_mem ks (i + 1) w h
      exact ⟨j + 1, v, c, by rw [e, show i + 1 + j = i + (j + 1) by omega], ec, hv⟩
theorem map_set_eq {α : Type} {f : TT → α} {ks : List TT} {i : Nat} {c c' : TT} (e : ks[i]? = some c) (h : f c' = f c) : (ks.set i c').map f = ks.map f := by
  rw [List.map_set, h]
  obtain ⟨hi, rfl⟩ := List.getElem?_eq_some_iff.mp e
  apply List.ext_getElem?
  intro j
  rw [List.getElem?_set]
  split
  · rename_i e2
    subst e2
    rw [List.length_map, if_pos hi, List.getElem?_map, List.getElem?_eq_getElem hi]
    rfl
  · rfl
theorem bls_map : ∀ ks : List TT, TT.bls ks = ks.map TT.bd
  | [] => rfl
  | k :: ks => by
    show k.bd :: TT.bls ks = k.bd :: ks.map TT.bd
    rw [bls_map ks]
theorem lvss_map : ∀ ks : List TT, TT.lvss ks = (ks.map TT.lvs).flatten
  | [] => rfl
  | k :: ks => by
    show k.lvs ++ TT.lvss ks = k.lvs ++ (ks.map TT.lvs).flatten
    rw [lvss_map ks]
theorem szs_map : ∀ ks : List TT, TT.szs ks = (ks.map TT.sz).sum
  | [] => rfl
  | k :: ks => by
    show k.sz + TT.szs ks = _
    rw [List.map_cons, List.sum_cons, szs_map ks]
theorem mkss_map : ∀ ks : List TT, TT.mkss ks = (ks.map TT.mks).sum
  | [] => rfl
  | k :: ks => by
    show k.mks + TT.mkss ks = _
    rw [List.map_cons, List.sum_cons, mkss_map ks]
theorem pots_set : ∀ {ks : List TT} {i : Nat} {c c' : TT}, ks[i]? = some c → TT.pots (ks.set i c') + c.pot = TT.pots ks + c'.pot
  | [], i, c, c', e => by simp at e
  | k :: ks, 0, c, c', e => by
    simp at e
    subst e
    show c'.pot + TT.pots ks + k.pot = k.pot + TT.pots ks + c'.pot
    omega
  | k :: ks, i + 1, c, c', e => by
    have := pots_set (ks := ks) (i := i) (c := c) (c' := c') (by simpa using e)
    show k.pot + TT.pots (ks.set i c') + c.pot = k.pot + TT.pots ks + c'.pot
    omega
theorem hd2_map {ks ks' : List TT} (e : ks'.map TT.mks = ks.map TT.mks) : hd2 ks' = hd2 ks := by
  match ks, ks', e with
  | [], [], _ => rfl
  | [a], [b], _ => rfl
  | [a, b], [a', b'], e =>
    injection e with e1 _
  | a :: b :: c :: l, a' :: b' :: c' :: l', _ => rfl
  | [], _ :: _, e => cases e
  | _ :: _, [], e => cases e
  | [a], b :: c :: l, e => injection e with _ e; cases e
  | b :: c :: l, [a], e => injection e with _ e; cases e
  | [a, b], x :: y :: z :: l, e => injection e with _ e; injection e with _ e; cases e
  | x :: y :: z :: l, [a, b], e => injection e with _ e; injection e with _ e; cases e
theorem no3s_set : ∀ {ks : List TT} {i : Nat} {c' : TT}, TT.no3s ks → c'.no3 → TT.no3s (ks.set i c')
  | [], i, c', _, _ => trivial
  | k :: ks, 0, c', o, o' => ⟨o', (show k.no3 ∧ TT.no3s ks from o).2⟩
  | k :: ks, i + 1, c', o, o' => ⟨(show k.no3 ∧ TT.no3s ks from o).1, no3s_set (show k.no3 ∧ TT.no3s ks from o).2 o'⟩
theorem no3s_at : ∀ {ks : List TT} {i : Nat} {c : TT}, TT.no3s ks → ks[i]? = some c → c.no3
  | [], i, c, _, e => by simp at e
  | k :: ks, 0, c, o, e => by
    simp at e
    subst e
    exact (show k.no3 ∧ TT.no3s ks from o).1
  | k :: ks, i + 1, c, o, e => no3s_at (show k.no3 ∧ TT.no3s ks from o).2 (by simpa using e)
structure MvS (m : Int) (t t' : TT) : Prop where
  c : t'.cmb m = t.cmb m
  l : t'.lvs = t.lvs
  b : t'.bd = t.bd
  s : t'.sz = t.sz
  k : t'.mks = t.mks
  n : t.no3 → t'.no3
theorem MvS.refl {m : Int} {t : TT} : MvS m t t := ⟨rfl, rfl, rfl, rfl, rfl, id⟩
theorem MvS.trans {m : Int} {a b c : TT} (x : MvS m a b) (y : MvS m b c) : MvS m a c :=
  ⟨y.c.trans x.c, y.l.trans x.l, y.b.trans x.b, y.s.trans x.s, y.k.trans x.k, fun z => y.n (x.n z)⟩
theorem mvS_set {m k : Int} {ks : List TT} {i : Nat} {c c' : TT} (e : ks[i]? = some c) (s : MvS m c c') : MvS m (.mk k ks) (.mk k (ks.set i c')) := by
  refine ⟨?_, ?_, ?_, ?_, ?_, fun o => ⟨(show k ≠ 3 ∧ TT.no3s ks from o).1, no3s_set (show k ≠ 3 ∧ TT.no3s ks from o).2 (s.n (no3s_at (show k ≠ 3 ∧ TT.no3s ks from o).2 e))⟩⟩
  · show cmk m k (TT.cmbs m (ks.set i c')) = cmk m k (TT.cmbs m ks)
    rw [TT.cmbs_map, TT.cmbs_map, map_set_eq e s.c]
  · show TT.lvss (ks.set i c') = TT.lvss ks
    rw [lvss_map, lvss_map, map_set_eq e s.l]
  · show bcomb (TT.bls (ks.set i c')) = bcomb (TT.bls ks)
    rw [bls_map, bls_map, map_set_eq e s.b]
  · show TT.szs (ks.set i c') + 1 = TT.szs ks + 1
    rw [szs_map, szs_map, map_set_eq e s.s]
  · show TT.mkss (ks.set i c') + 1 = TT.mkss ks + 1
    rw [mkss_map, mkss_map, map_set_eq e s.k]
theorem mvS_top {m : Int} {x y z : TT} : MvS m (.mk m [.mk m [x, y], z]) (.mk m [x, .mk m [y, z]]) := by
  refine ⟨?_, ?_, ?_, ?_, ?_, fun o => ?_⟩
  · show cmk m m [x.cmb m, cmk m m [y.cmb m, z.cmb m]] = cmk m m [cmk m m [x.cmb m, y.cmb m], z.cmb m]
    have e : ∀ a b : TT, cmk m m [a, b] = comb2 m a b := fun a b => by
      show (if m = m then comb2 m a b else .mk m [a, b]) = _
      rw [if_pos rfl]
    rw [e, e, e, e, comb2_assoc m _ _ _ _ (Nat.le_refl _)]
  · show x.lvs ++ ((y.lvs ++ (z.lvs ++ [])) ++ []) = (x.lvs ++ (y.lvs ++ [])) ++ (z.lvs ++ [])
    simp
  · show x.bd + (y.bd + z.bd + 1) + 1 = (x.bd + y.bd + 1) + z.bd + 1
    omega
  · show x.sz + ((y.sz + (z.sz + 0) + 1) + 0) + 1 = ((x.sz + (y.sz + 0)) + 1) + (z.sz + 0) + 1
    omega
  · show x.mks + ((y.mks + (z.mks + 0) + 1) + 0) + 1 = ((x.mks + (y.mks + 0)) + 1) + (z.mks + 0) + 1
    omega
  · obtain ⟨a, ⟨b, c, e, _⟩, f, _⟩ : m ≠ 3 ∧ ((m ≠ 3 ∧ (x.no3 ∧ (y.no3 ∧ True))) ∧ (z.no3 ∧ True)) := o
    exact ⟨a, c, ⟨a, e, f, trivial⟩, trivial⟩
theorem mvS_back {m : Int} {x y z : TT} : MvS m (.mk m [x, .mk m [y, z]]) (.mk m [.mk m [x, y], z]) := by
  have s := mvS_top (m := m) (x := x) (y := y) (z := z)
  refine ⟨s.c.symm, s.l.symm, s.b.symm, s.s.symm, s.k.symm, fun o => ?_⟩
  obtain ⟨a, b, ⟨c, e, f, _⟩, _⟩ : m ≠ 3 ∧ (x.no3 ∧ ((m ≠ 3 ∧ (y.no3 ∧ (z.no3 ∧ True))) ∧ True)) := o
  exact ⟨a, ⟨a, b, e, trivial⟩, f, trivial⟩
theorem top_iff {m k : Int} {ks : List TT} (h : top m k ks = true) : k = m ∧ ∃ x y z, ks = [.mk m [x, y], z] := by
  match ks, h with
  | [a, b], h =>
    have h : ((k == m) && a.two m) = true := h
    obtain ⟨h1, h2⟩ := (Bool.and_eq_true _ _).mp h
    obtain ⟨x, y, rfl⟩ := TT.two_iff h2
    exact ⟨beq_iff_eq.mp h1, x, y, b, rfl⟩
  | [], h => cases h
  | [a], h => cases h
  | a :: b :: c :: l, h => cases h
theorem spots_nil {m k : Int} {ks : List TT} (h : [] ∈ (TT.mk k ks).spots m) : top m k ks = true := by
  rcases List.mem_append.mp (show [] ∈ (bif top m k ks then [[]] else []) ++ TT.spotss m 0 ks from h) with h | h
  · cases c : top m k ks with
    | true => rfl
    | false => rw [c] at h; cases h
  · obtain ⟨j, v, c, e, _⟩ := spotss_mem ks 0 [] h
    cases e
theorem spots_cons {m k : Int} {ks : List TT} {i : Nat} {w : List Nat} (h : (i :: w) ∈ (TT.mk k ks).spots m) : ∃ c, ks[i]? = some c ∧ w ∈ c.spots m := by
  rcases List.mem_append.mp (show (i :: w) ∈ (bif top m k ks then [[]] else []) ++ TT.spotss m 0 ks from h) with h | h
  · cases c : top m k ks with
    | true =>
      rw [c] at h
      have h : (i :: w) ∈ [([] : List Nat)] := h
      rw [List.mem_singleton] at h
      cases h
    | false => rw [c] at h; cases h
  · obtain ⟨j, v, c, e, ec, hv⟩ := spotss_mem ks 0 _ h
    rw [Nat.zero_add] at e
    injection e with e1 e2
    subst e1 e2
    exact ⟨c, ec, hv⟩
theorem mv_p {m : Int} : ∀ (w : List Nat) (t : TT), w ∈ t.spots m → MvS m t (TT.mv w t) ∧ (TT.mv w t).pot < t.pot
  | w, .lf v, h => by cases h
  | [], .mk k ks, h => by
    obtain ⟨rfl, x, y, z, rfl⟩ := top_iff (spots_nil h)
    refine ⟨mvS_top, ?_⟩
    show x.mks + (x.pot + ((y.mks + (y.pot + (z.pot + 0))) + 0)) < (x.mks + (y.mks + 0) + 1) + ((x.mks + (x.pot + (y.pot + 0))) + (z.pot + 0))
    omega
  | i :: w, .mk k ks, h => by
    obtain ⟨c, ec, hv⟩ := spots_cons h
    obtain ⟨s, p⟩ := mv_p w c hv
    have e : TT.mv (i :: w) (.mk k ks) = .mk k (ks.set i (TT.mv w c)) := by
      rw [TT.mv, ec]
    rw [e]
    refine ⟨mvS_set ec s, ?_⟩
    have e1 := pots_set (c' := TT.mv w c) ec
    have e2 := hd2_map (map_set_eq (f := TT.mks) ec s.k)
    show hd2 (ks.set i _) + TT.pots (ks.set i _) < hd2 ks + TT.pots ks
    omega
mutual
theorem no_spots {m : Int} : ∀ t : TT, t.spots m = [] → t.cmb m = t
  | .lf w, _ => rfl
  | .mk k ks, h => by
    have h : (bif top m k ks then [[]] else []) ++ TT.spotss m 0 ks = [] := h
    obtain ⟨h1, h2⟩ := List.append_eq_nil_iff.mp h
    show cmk m k (TT.cmbs m ks) = _
    rw [no_spotss ks 0 h2]
    cases c : top m k ks with
    | true => rw [c] at h1; cases h1
    | false =>
      unfold cmk
      split
      · rename_i a b _
        split
        · rename_i e
          subst e
          have c : ((k == k) && a.two k) = false := c
          rw [show (k == k) = true from beq_iff_eq.mpr rfl, Bool.true_and] at c
          exact comb2_no c
        · rfl
      · rfl
theorem no_spotss {m : Int} : ∀ (ks : List TT) (i : Nat), TT.spotss m i ks = [] → TT.cmbs m ks = ks
  | [], _, _ => rfl
  | k :: ks, i, h => by
    have h : (TT.spots m k).map (fun w => i :: w) ++ TT.spotss m (i + 1) ks = [] := h
    obtain ⟨h1, h2⟩ := List.append_eq_nil_iff.mp h
    show k.cmb m :: TT.cmbs m ks = _
    rw [no_spots k (List.map_eq_nil_iff.mp h1), no_spotss ks (i + 1) h2]
end
end EV
namespace L37
open PySem EV
def lThing (i : Int) : W := .tup [.str "thing", .int i]
def lAt (l : List Int) : W := .tup [.str "at", .tup (l.map .int)]
def lCall : W := .tup [.str "call", .int 0, .tup [.int 0]]
def LfS (w : W) : Prop := (∃ i : Int, 0 ≤ i ∧ i < 3 ∧ w = lThing i) ∨ w = lAt [] ∨ w = lAt [1] ∨ w = lCall
theorem sh_of {s : Str} (h : SeqAt.shaped (.str s) = true) : qdat (.str s) = true := h
theorem ne_make {s : Str} (h1 : SeqAt.shaped (.str s) = true) (h2 : PyData.eqv (.str s) (.str "make") = false) (n : Bool) (h : Hpe) : gEq n (.str s) (.str "make") h = .ok (.bl (n != false)) h := by
  have e1 : SeqAt.shaped (.str "make") = true := by decide +kernel
  unfold gEq
  show (bif SeqAt.shaped (.str s) && SeqAt.shaped (.str "make") then Res.ok (W.bl (n != PyData.eqv (.str s) (.str "make"))) h else .no) = _
  rw [e1, h1, h2]
  rfl
theorem lfp_thing (i : Int) : LfP (lThing i) := by
  have s : SeqAt.shaped (.str "thing") = true := by decide +kernel
  refine ⟨⟨"thing", [.int i], rfl, ne_make s (by decide +kernel)⟩, ?_, rfl, rfl, Nat.le_of_ble_eq_true rfl, Nat.le_of_ble_eq_true rfl⟩
  show (qdat (.str "thing") && (true && true)) = true
  rw [sh_of s]
  rfl
theorem lfp_at0 : LfP (lAt []) := by
  have s : SeqAt.shaped (.str "at") = true := by decide +kernel
  refine ⟨⟨"at", [.tup []], rfl, ne_make s (by decide +kernel)⟩, ?_, rfl, rfl, Nat.le_of_ble_eq_true rfl, Nat.le_of_ble_eq_true rfl⟩
  show (qdat (.str "at") && (true && true)) = true
  rw [sh_of s]
  rfl
theorem lfp_at1 (i : Int) : LfP (lAt [i]) := by
  have s : SeqAt.shaped (.str "at") = true := by decide +kernel
  refine ⟨⟨"at", [.tup [.int i]], rfl, ne_make s (by decide +kernel)⟩, ?_, rfl, rfl, Nat.le_of_ble_eq_true rfl, Nat.le_of_ble_eq_true rfl⟩
  show (qdat (.str "at") && ((true && true) && true)) = true
  rw [sh_of s]
  rfl
theorem lfp_at2 (i j : Int) : LfP (lAt [i, j]) := by
  have s : SeqAt.shaped (.str "at") = true := by decide +kernel
  refine ⟨⟨"at", [.tup [.int i, .int j]], rfl, ne_make s (by decide +kernel)⟩, ?_, rfl, rfl, Nat.le_of_ble_eq_true rfl, Nat.le_of_ble_eq_true rfl⟩
  show (qdat (.str "at") && ((true && (true && true)) && true)) = true
  rw [sh_of s]
  rfl
theorem lfp_call : LfP lCall := by
  have s : SeqAt.shaped (.str "call") = true := by decide +kernel
  refine ⟨⟨"call", [.int 0, .tup [.int 0]], rfl, ne_make s (by decide +kernel)⟩, ?_, rfl, rfl, Nat.le_of_ble_eq_true rfl, Nat.le_of_ble_eq_true rfl⟩
  show (qdat (.str "call") && (true && ((true && true) && true))) = true
  rw [sh_of s]
  rfl
theorem LfS.p {w : W} (h : LfS w) : LfP w := by
  rcases h with ⟨i, _, _, rfl⟩ | rfl | rfl | rfl
  · exact lfp_thing i
  · exact lfp_at0
  · exact lfp_at1 1
  · exact lfp_call
def Tr : Nat → TT → Prop
  | 0, t => ∃ w, t = .lf w ∧ LfS w
  | d + 1, t => (∃ w, t = .lf w ∧ LfS w) ∨ ∃ k ks, t = .mk k ks ∧ (k = 1 ∨ k = 2) ∧ 1 ≤ ks.length ∧ ks.length ≤ 3 ∧ ∀ c ∈ ks, Tr d c
structure TrB (d sz bd mks pot : Nat) (t : TT) : Prop where
  gd : t.gd
  s : t.sz ≤ sz
  b : t.bd ≤ bd
  k : t.mks ≤ mks
  p : t.pot ≤ pot
  n : t.no3
theorem len3 {α : Type} {l : List α} {f : α → Nat} {B : Nat} (h : ∀ x ∈ l, f x ≤ B) (n : Nat) (hl : l.length ≤ n) : (l.map f).sum ≤ n * B := by
  induction l generalizing n with
  | nil => exact Nat.zero_le _
  | cons a l ih =>
    cases n with
    | zero => cases hl
    | succ n =>
      have := ih (fun x m => h x (List.mem_cons_of_mem _ m)) n (by simpa using hl)
      have h1 := h a (List.mem_cons_self ..)
      rw [List.map_cons, List.sum_cons, Nat.succ_mul]
      omega
theorem pots_map : ∀ ks : List TT, TT.pots ks = (ks.map TT.pot).sum
  | [] => rfl
  | k :: ks => by
    show k.pot + TT.pots ks = _
    rw [List.map_cons, List.sum_cons, pots_map ks]
theorem bcomb_le {B : Nat} : ∀ {l : List Nat}, (∀ x ∈ l, x ≤ B) → bcomb l ≤ 2 * B + 1 := by
  have mx : ∀ l : List Nat, (∀ x ∈ l, x ≤ B) → lmax l ≤ B := by
    intro l
    induction l with
    | nil => intro _; exact Nat.zero_le _
    | cons a l ih =>
      intro h
      have := ih fun x m => h x (List.mem_cons_of_mem _ m)
      have := h a (List.mem_cons_self ..)
      show max a (lmax l) ≤ B
      omega
  intro l h
  match l, h with
  | [], h => show 0 + 1 ≤ _; omega
  | [x], h =>
    have := mx [x] h
    show lmax [x] + 1 ≤ _
    omega
  | [x, y], h =>
    have := h x (List.mem_cons_self ..)
    have := h y (List.mem_cons_of_mem _ (List.mem_cons_self ..))
    show x + y + 1 ≤ _
    omega
  | x :: y :: z :: l, h =>
    have := mx _ h
    show lmax (x :: y :: z :: l) + 1 ≤ _
    omega
theorem no3s_all : ∀ {ks : List TT}, (∀ c ∈ ks, c.no3) → TT.no3s ks
  | [], _ => trivial
  | k :: ks, h => ⟨h k (List.mem_cons_self ..), no3s_all fun c m => h c (List.mem_cons_of_mem _ m)⟩
theorem lvss_mem : ∀ {ks : List TT} {w : W}, w ∈ TT.lvss ks → ∃ c ∈ ks, w ∈ c.lvs
  | [], w, h => by cases h
  | k :: ks, w, h => by
    rcases List.mem_append.mp (show w ∈ k.lvs ++ TT.lvss ks from h) with h | h
    · exact ⟨k, List.mem_cons_self .., h⟩
    · obtain ⟨c, m, e⟩ := lvss_mem h
      exact ⟨c, List.mem_cons_of_mem _ m, e⟩
theorem tr_leaf {w : W} {a b c d e : Nat} (l : LfS w) (h : 1 ≤ b) : TrB a b c d e (.lf w) :=
  ⟨fun v m => by rcases List.mem_singleton.mp (show v ∈ [w] from m) with rfl; exact l.p, h, Nat.zero_le _, Nat.zero_le _, Nat.zero_le _, trivial⟩
theorem tr_step {d sz bd mks pot : Nat} (ih : ∀ t, Tr d t → TrB d sz bd mks pot t) (t : TT) (h : Tr (d + 1) t) : TrB (d + 1) (3 * sz + 1) (2 * bd + 1) (3 * mks + 1) (mks + 3 * pot) t := by
  rcases h with ⟨w, rfl, l⟩ | ⟨k, ks, rfl, hk, l1, l3, h⟩
  · exact tr_leaf l (by omega)
  · have b := fun c m => ih c (h c m)
    refine ⟨fun w m => ?_, ?_, ?_, ?_, ?_, ⟨by omega, no3s_all fun c m => (b c m).n⟩⟩
    · obtain ⟨c, m, e⟩ := lvss_mem (show w ∈ TT.lvss ks from m)
      exact (b c m).gd w e
    · show TT.szs ks + 1 ≤ _
      have := len3 (f := TT.sz) (fun c m => (b c m).s) 3 l3
      rw [szs_map]
      omega
    · show bcomb (TT.bls ks) ≤ _
      refine bcomb_le fun x m => ?_
      rw [bls_map] at m
      obtain ⟨c, m2, rfl⟩ := List.mem_map.mp m
      exact (b c m2).b
    · show TT.mkss ks + 1 ≤ _
      have := len3 (f := TT.mks) (fun c m => (b c m).k) 3 l3
      rw [mkss_map]
      omega
    · show hd2 ks + TT.pots ks ≤ _
      have := len3 (f := TT.pot) (fun c m => (b c m).p) 3 l3
      rw [pots_map]
      have : hd2 ks ≤ mks := by
        match ks, b with
        | [], _ => exact Nat.zero_le _
        | [a], _ => exact Nat.zero_le _
        | [a, x], b => exact (b a (List.mem_cons_self ..)).k
        | a :: x :: y :: l, _ => exact Nat.zero_le _
      omega
theorem tr_up : ∀ {d : Nat} {t : TT}, Tr d t → Tr (d + 1) t
  | 0, t, h => .inl h
  | d + 1, t, h => by
    rcases h with h | ⟨k, ks, e, hk, l1, l3, h⟩
    · exact .inl h
    · exact .inr ⟨k, ks, e, hk, l1, l3, fun c m => tr_up (h c m)⟩
theorem tr4 {d : Nat} {t : TT} (hd : d ≤ 4) (h : Tr d t) : TrB 4 121 15 40 34 t := by
  have h : Tr 4 t := by
    match d, hd, h with
    | 0, _, h => exact tr_up (tr_up (tr_up (tr_up h)))
    | 1, _, h => exact tr_up (tr_up (tr_up h))
    | 2, _, h => exact tr_up (tr_up h)
    | 3, _, h => exact tr_up h
    | 4, _, h => exact h
  have z : ∀ t, Tr 0 t → TrB 0 1 0 0 0 t := by
    rintro t ⟨w, rfl, l⟩
    exact tr_leaf l (Nat.le_refl _)
  exact tr_step (tr_step (tr_step (tr_step z))) t h
section
local macro_rules | `(tactic| w_up) => `(tactic| simp only [w_seq, w_nil, w_rt, w_rtN, w_ex, w_as, w_if, w_par, w_rs, w_au, w_v, w_k, w_aN, w_aC, w_e2, w_tup, w_lst, w_cl, w_cl0, w_bl, w_asB, w_asT, w_tNt, w_tAn, w_tOr, w_tYs, w_eIf, w_eAn, w_eNtT, w_eOrT, w_oS, w_oN, w_eIs, w_eIs2, w_mt, w_mt0, wp_ok, wp_exc, List.getElem?_cons_zero, List.getElem?_cons_succ, List.set_cons_zero, List.set_cons_succ, Option.some.injEq, exists_eq_left', nc_int, nc_bl, nc_tup, nc_ref, nc_non, nc_str, true_and, and_true, List.length_cons, List.length_nil, List.map_cons, List.map_nil, W.bl.injEq, W.int.injEq, Bool.not_true, Bool.not_false, Bool.not_not, Bool.false_eq_true, if_true, if_false, iw_tup, iw_int, iw_bl, iw_str, iw_non, tr_bl, tr_int, tr_tup, tr_non, Bool.or_true, Bool.or_false, Bool.true_or, wipeR, qe_bl, qe_int, qe_non, isN_f, isN_t, beq_self_eq_true, bne_self_eq_false, Bool.false_bne, Bool.true_bne, o_gI, o_gI0, o_gB0, o_mulI, add_ii, o_mulW, o_addW, wd_fold, nc_wd, tr_wd, w_sl, sl_wd, cut_toN, cut_frN, qe_wd, len_wd])
variable {d : Nat} {h : Hpe} {n : Nat} {c : Int}
theorem et (d : Nat) : callE (d + 1) 9 = runB 6 uTake := by rw [callE_at, b9]
theorem urn_mono {c' : Int} (u : UrnAt h n c) (hc : c ≤ c') : UrnAt h n c' := by
  obtain ⟨x, y, z, g, p, q⟩ := u
  exact ⟨x, y, z, g, p, by omega⟩
theorem urn_gr {h' : Hpe} {k : Nat} (u : UrnAt h n c) (hn : n < h.nx) (gr : Gr noM k h h') : UrnAt h' n c := by
  obtain ⟨x, y, z, g, p, q⟩ := u
  exact ⟨x, y, z, (gr.old n hn fun z => z).trans g, p, q⟩
theorem of_wp {a : Nat} {ws : List W} {Q : W → Hpe → Prop} {E : Exc → Hpe → Prop} (u : UrnAt h n c) (hn : n < 100000000) (hc : c < 1000000000) (g : h.get a = some (.lst ws)) (ha : a < h.nx) (ne : a ≠ n) (l0 : 0 < ws.length) (l1 : ws.length ≤ 100000)
    (q : ∀ (i : Nat) (w : W) (h' : Hpe), ws[i]? = some w → UrnAt h' n (c + 1) → Gr (· = n) 0 h h' → Q w h') : (callE (d + 2) 13 [.ref n, .ref a] h).Wp Q E := by
  rw [callE_at, show (bodies (callE (d + 1))).get 13 = runB 2 (F__law_of (callE (d + 1))) from rfl, run_eq]
  show (F__law_of (callE (d + 1)) [some (.ref n), some (.ref a)] h).Wp _
  unfold F__law_of
  w_up
  rw [len_l g]
  w_up
  refine w_take (et d) u hn (by omega) (by omega) hc fun t h1 t0 t1 u1 g1 => ?_
  have g2 := (g1.old a ha ne).trans g
  obtain ⟨i, rfl⟩ : ∃ i : Nat, t = i := ⟨t.toNat, by omega⟩
  have hi : i < ws.length := by omega
  have ei := List.getElem?_eq_getElem hi
  exact wp_eq (ix_lst g2 (atI_n ei)) (q i _ h1 ei u1 g1)
end
end L37
namespace L37
open PySem EV
section
local macro_rules | `(tactic| w_up) => `(tactic| simp only [w_seq, w_nil, w_rt, w_rtN, w_ex, w_as, w_if, w_par, w_rs, w_au, w_v, w_k, w_aN, w_aC, w_e2, w_tup, w_lst, w_cl, w_cl0, w_bl, w_asB, w_asT, w_tNt, w_tAn, w_tOr, w_tYs, w_eIf, w_eAn, w_eNtT, w_eOrT, w_oS, w_oN, w_eIs, w_eIs2, w_mt, w_mt0, wp_ok, wp_exc, List.getElem?_cons_zero, List.getElem?_cons_succ, List.set_cons_zero, List.set_cons_succ, Option.some.injEq, exists_eq_left', nc_int, nc_bl, nc_tup, nc_ref, nc_non, nc_str, true_and, and_true, List.length_cons, List.length_nil, List.map_cons, List.map_nil, W.bl.injEq, W.int.injEq, Bool.not_true, Bool.not_false, Bool.not_not, Bool.false_eq_true, if_true, if_false, iw_tup, iw_int, iw_bl, iw_str, iw_non, tr_bl, tr_int, tr_tup, tr_non, Bool.or_true, Bool.or_false, Bool.true_or, wipeR, qe_bl, qe_int, qe_non, isN_f, isN_t, beq_self_eq_true, bne_self_eq_false, Bool.false_bne, Bool.true_bne, o_gI, o_gI0, o_gB0, o_mulI, add_ii, o_mulW, o_addW, wd_fold, nc_wd, tr_wd, w_sl, sl_wd, cut_toN, cut_frN, qe_wd, len_wd])
def cT : Nat → Nat
  | 0 => 4
  | d + 1 => 5 + 3 * cT d
theorem cT_pos : ∀ d, 4 ≤ cT d
  | 0 => Nat.le_refl _
  | d + 1 => by
    have := cT_pos d
    show 4 ≤ 5 + 3 * cT d
    omega
theorem leafs : ∀ {w : W}, w ∈ [lAt [], lAt [1], lCall] → LfS w := by
  intro w m
  rcases List.mem_cons.mp m with rfl | m
  · exact .inr (.inl rfl)
  rcases List.mem_cons.mp m with rfl | m
  · exact .inr (.inr (.inl rfl))
  rcases List.mem_cons.mp m with rfl | m
  · exact .inr (.inr (.inr rfl))
  · cases m
theorem ints_at {l : List Int} {i : Nat} {w : W} (e : (l.map W.int)[i]? = some w) : ∃ x ∈ l, w = .int x := by
  rw [List.getElem?_map] at e
  cases q : l[i]? with
  | none => rw [q] at e; cases e
  | some x => rw [q] at e; cases e; exact ⟨x, List.mem_of_getElem? q, rfl⟩
theorem tree_wp {n : Nat} {kd : Int} : ∀ (deep e : Nat) (h : Hpe) (c : Int), deep ≤ 4 → deep + 3 ≤ e → UrnAt h n c → n < h.nx → h.nx + cT deep ≤ 1000000 → c + cT deep ≤ 1000000 → h.lk = [] →
    (callE e 14 [.ref n, .int (deep : Int), .int kd] h).Wp (fun w h' => ∃ t, w = t.enc ∧ Tr deep t ∧ UrnAt h' n (c + cT deep) ∧ Gr (· = n) (cT deep) h h') (fun _ _ => False) := by
  intro deep
  induction deep with
  | zero => ?_
  | succ dp ih => ?_
  all_goals
    intro e h c hd he u hn nx hc lk
    obtain ⟨e, rfl⟩ : ∃ e', e = e' + 3 := ⟨e - 3, by omega⟩
    rw [callE_at, show (bodies (callE (e + 2))).get 14 = runB 6 (F__law_tree (callE (e + 2))) from rfl, run_eq]
    have leaf : ∀ (deep : Nat) (D : Po) (h : Hpe) (c : Int), UrnAt h n c → n < h.nx → h.nx ≤ 2000000 → c ≤ 2000000 → (∀ w h', LfS w → UrnAt h' n (c + 1) → Gr (· = n) 1 h h' → D.rt w h') → ((sSeq (sRt (eIf (asB (e2 (gEq false) (eV 2) (eK (.int 1)))) (eTup (aC (eK (.str "thing")) (aC (eCl 2 (callE (e + 2) 9) (aC (eV 0) (aC (eK (.int 3)) aN))) aN))) (eCl 2 (callE (e + 2) 13) (aC (eV 0) (aC (eLst (aC (eTup (aC (eK (.str "at")) (aC (eTup aN) aN))) (aC (eTup (aC (eK (.str "at")) (aC (eTup (aC (eK (.int 1)) aN)) aN))) (aC (eTup (aC (eK (.str "call")) (aC (eK (.int 0)) (aC (eTup (aC (eK (.int 0)) aN)) aN)))) aN)))) aN)))))
      sNil) [some (.ref n), some (.int (deep : Int)), some (.int kd), none, none, none] h).Wp D := by
      intro deep D h c u hn nx hc q
      w_up
      cases kd == 1 with
      | true =>
        w_up
        refine w_take (et (e + 1)) u (by omega) (by omega) (by omega) (by omega) fun t h1 t0 t1 u1 g1 => ?_
        exact ⟨by decide, q _ h1 (.inl ⟨t, t0, t1, rfl⟩) u1 (g1.mono (by omega) fun _ _ z => z)⟩
      | false =>
        w_up
        refine ⟨by decide, by decide, by decide, by decide, by decide, by decide, by decide, by omega, ?_⟩
        have g := new_get (h := h) (.lst [lAt [], lAt [1], lCall]) (by omega)
        have gr : Gr noM 1 h (h.new (.lst [lAt [], lAt [1], lCall])) := Gr.new _
        have x1 : (h.new (.lst [lAt [], lAt [1], lCall])).nx = h.nx + 1 := rfl
        show (callE (e + 2) 13 [.ref n, .ref h.nx] (h.new (.lst [lAt [], lAt [1], lCall]))).Wp _ _
        generalize h.new (.lst [lAt [], lAt [1], lCall]) = h1 at g gr x1 ⊢
        refine of_wp (d := e) (urn_gr u hn gr) (by omega) (by omega) g (by omega) (by omega) (by decide) (by decide) fun i w h' ew u' g' => ?_
        exact q w h' (leafs (List.mem_of_getElem? ew)) u' (((gr.mono (Nat.le_refl _) fun _ _ z => z.elim).trans g').mono (by omega) fun _ _ z => z)
  · show (F__law_tree (callE (e + 2)) [some (.ref n), some (.int ((0 : Nat) : Int)), some (.int kd), none, none, none] h).Wp _
    unfold F__law_tree
    rw [w_seq, w_if]
    simp only [w_tOr, w_asB, w_e2, w_v, w_k, List.getElem?_cons_zero, List.getElem?_cons_succ, Option.some.injEq, exists_eq_left', nc_int, true_and, qe_int, wp_ok, show (((0 : Nat) : Int) == 0) = true from rfl, Bool.false_bne, W.bl.injEq, if_true]
    refine leaf 0 _ h c u hn (by omega) (by omega) fun w h' lw u' g' => ?_
    exact ⟨.lf w, rfl, ⟨w, rfl, lw⟩, urn_mono u' (by show c + 1 ≤ c + ((4 : Nat) : Int); omega), g'.mono (by show 1 ≤ 4; omega) fun _ _ z => z⟩
  · show (F__law_tree (callE (e + 2)) [some (.ref n), some (.int ((dp + 1 : Nat) : Int)), some (.int kd), none, none, none] h).Wp _
    have c4 := cT_pos dp
    have cS : cT (dp + 1) = 5 + 3 * cT dp := rfl
    have cB : cT dp ≤ 500 := by
      have e0 : cT 0 = 4 := rfl
      have e1 : cT 1 = 17 := rfl
      have e2 : cT 2 = 56 := rfl
      have e3 : cT 3 = 173 := rfl
      match dp, hd with
      | 0, _ => omega
      | 1, _ => omega
      | 2, _ => omega
      | 3, _ => omega
    unfold F__law_tree
    rw [w_seq, w_if]
    simp only [w_tOr, w_asB, w_e2, w_v, w_k, w_cl, w_aC, w_aN, List.getElem?_cons_zero, List.getElem?_cons_succ, Option.some.injEq, exists_eq_left', nc_int, nc_ref, true_and, qe_int, wp_ok, show (((dp + 1 : Nat) : Int) == 0) = false from beq_eq_false_iff_ne.mpr (by omega), Bool.false_bne, W.bl.injEq, if_false, Bool.false_eq_true]
    refine ⟨rfl, ?_⟩
    refine w_take (et (e + 1)) u (by omega) (by omega) (by omega) (by omega) fun t h1 t0 t1 u1 g1 => ?_
    have l1 := g1.lt
    have e1 := g1.le
    simp only [qe_int, wp_ok, Bool.false_bne, W.bl.injEq, exists_eq_left']
    cases t == 0 with
    | true =>
      simp only [if_true]
      refine leaf (dp + 1) _ h1 (c + 1) u1 (by omega) (by omega) (by omega) fun w h' lw u' g' => ?_
      exact ⟨.lf w, rfl, .inl ⟨w, rfl, lw⟩, urn_mono u' (by omega), (g1.trans g').mono (by omega) fun _ _ z => z⟩
    | false =>
      simp only [Bool.false_eq_true, if_false]
      w_up
      refine ⟨by decide, by omega, ?_⟩
      have gm := new_get (h := h1) (.lst ([1, 1, 1, 2].map W.int)) (by omega)
      have grm : Gr noM 1 h1 (h1.new (.lst ([1, 1, 1, 2].map W.int))) := Gr.new _
      have xm : (h1.new (.lst ([1, 1, 1, 2].map W.int))).nx = h1.nx + 1 := rfl
      show (callE (e + 2) 13 [.ref n, .ref h1.nx] (h1.new (.lst ([1, 1, 1, 2].map W.int)))).Wp _ _
      generalize h1.new (.lst ([1, 1, 1, 2].map W.int)) = h2 at gm grm xm ⊢
      refine of_wp (d := e) (urn_gr u1 (by omega) grm) (by omega) (by omega) gm (by omega) (by omega) (by decide) (by decide) fun i w h3 ew u3 g3 => ?_
      obtain ⟨mk, mm, rfl⟩ := ints_at ew
      have mk12 : mk = 1 ∨ mk = 2 := by simpa using mm
      have l3 := g3.lt
      have e3 := g3.le
      w_up
      have kids : ∀ (l : List Int), l.length = 6 → (∀ x ∈ l, 1 ≤ x ∧ x ≤ 3) → (callE (e + 2) 13 [W.ref n, W.ref h3.nx] (h3.new (Ob.lst (l.map W.int)))).Wp
          (fun w h_1 =>
            (eComp (Ob.lst []) (iR1 (aC (eV 4) aN)) (gN 5) tYs
                  (moreL
                    (eCl 3 (callE (e + 2) 14)
                      (aC (eV 0) (aC (e2 (gI0 fun i j => i - j) (eV 1) (eK (W.int 1))) (aC (eV 2) aN)))))
                  [5] [some (W.ref n), some (W.int ((dp + 1 : Nat) : Int)), some (W.int kd), some (W.int mk), some w, none] h_1).Wp
              (fun w h_2 =>
                (bTup [w] h_2).Wp
                  (fun w h_3 =>
                    line (0 + 1 + 1 + 1) = true ∧
                      ∃ t,
                        W.tup [W.str (Str.ofString "make"), W.int mk, w] = t.enc ∧
                          Tr (dp + 1) t ∧ UrnAt h_3 n (c + ((cT (dp + 1) : Nat) : Int)) ∧ Gr (fun x => x = n) (cT (dp + 1)) h h_3)
                  fun x h => False)
              fun x h => False)
          fun x h => False := by
        intro l ll lb
        have gl := new_get (h := h3) (.lst (l.map W.int)) (by omega)
        have grl : Gr noM 1 h3 (h3.new (.lst (l.map W.int))) := Gr.new _
        have xl : (h3.new (.lst (l.map W.int))).nx = h3.nx + 1 := rfl
        generalize h3.new (.lst (l.map W.int)) = h4 at gl grl xl ⊢
        refine of_wp (d := e) (urn_gr u3 (by omega) grl) (by omega) (by omega) gl (by omega) (by omega) (by rw [List.length_map]; omega) (by rw [List.length_map]; omega) fun i w h5 ew u5 g5 => ?_
        obtain ⟨mn, mm, rfl⟩ := ints_at ew
        obtain ⟨b1, b3⟩ := lb mn mm
        obtain ⟨mn, rfl⟩ : ∃ k : Nat, mn = k := ⟨mn.toNat, by omega⟩
        have l5 := g5.lt
        have e5 := g5.le
        have gA : Gr (· = n) 2 h h5 := ((((g1.trans (grm.mono (Nat.le_refl _) fun _ _ z => z.elim)).trans g3).trans (grl.mono (Nat.le_refl _) fun _ _ z => z.elim)).trans g5).mono (by omega) fun _ _ z => z
        have lk5 := gA.lk.trans lk
        have fin : ∀ ts : List TT, ts.length = mn → (∀ t ∈ ts, Tr dp t) → ∀ h', UrnAt h' n (c + 3 + mn * cT dp) → Gr (· = n) (3 + mn * cT dp) h h' → ∃ t : TT, W.tup [W.str (Str.ofString "make"), W.int mk, W.tup (TT.encs ts)] = t.enc ∧ Tr (dp + 1) t ∧ UrnAt h' n (c + ((cT (dp + 1) : Nat) : Int)) ∧ Gr (fun x => x = n) (cT (dp + 1)) h h' := by
          intro ts lt tt h' u' g'
          have mb : mn * cT dp ≤ 3 * cT dp := Nat.mul_le_mul_right _ (by omega)
          have mb2 : ((mn : Int) * (cT dp : Int)) = ((mn * cT dp : Nat) : Int) := by push_cast; rfl
          exact ⟨.mk mk ts, rfl, .inr ⟨mk, ts, rfl, mk12, by omega, by omega, tt⟩, urn_mono u' (by rw [mb2]; omega), g'.mono (by omega) fun _ _ z => z⟩
        with_reducible refine w_compL (rngW 0 mn) (fun k i ys h' => ∃ ts : List TT, ys = TT.encs ts ∧ ts.length = i ∧ i ≤ mn ∧ (∀ t ∈ ts, Tr dp t) ∧ UrnAt h' n (c + 3 + i * cT dp) ∧ h'.get k = some (.lst ys) ∧ k = h5.nx ∧ k < h'.nx ∧ Gr (· = n) (3 + i * cT dp) h h') ?_ ?_ ?_ ?_
        · rw [rngW_len]; omega
        · rw [w_iR1]
          w_up
          refine ⟨_, rfl, cR_of (by omega) (by omega), ⟨by omega, [], rfl, rfl, Nat.zero_le _, (fun _ m => by cases m), ?_, new_get _ (by omega), Nat.lt_succ_self _, ?_⟩, ?_⟩
          · exact urn_mono (urn_gr u5 (by omega) (Gr.new _)) (by omega)
          · exact (gA.trans (Gr.new _)).mono (by omega) fun _ _ z => z
          · intro k i ys h' _
            rw [Int.toNat_natCast]
            exact srcR_at _ _ _ _
        · rintro k i w ys h' ew ⟨ts, rfl, rfl, it, tt, u', gk, rfl, kn, gr⟩ _
          rw [rngW_at] at ew
          split at ew
          · rename_i it2
            cases ew
            rw [w_gN]
            w_up
            have q0 : ts.length * cT dp ≤ 3 * cT dp := Nat.mul_le_mul_right _ (by omega)
            have q1 : ((ts.length : Int) * (cT dp : Int)) = ((ts.length * cT dp : Nat) : Int) := by push_cast; rfl
            have l6 := gr.lt
            have q0' : (ts.length + 1) * cT dp ≤ 3 * cT dp := Nat.mul_le_mul_right _ (by omega)
            have q2 : (ts.length + 1) * cT dp = ts.length * cT dp + cT dp := Nat.succ_mul _ _
            rw [show ((dp + 1 : Nat) : Int) - 1 = (dp : Int) by omega]
            refine (ih (e + 2) h' _ (by omega) (by omega) u' (by omega) (by omega) (by rw [q1]; omega) (gr.lk.trans lk)).mono (fun w h6 z => ?_) (fun _ _ z => z.elim)
            obtain ⟨t', rfl, tr', u6, g6⟩ := z
            have n2 : n ≠ h5.nx := by omega
            have gk2 : h6.get h5.nx = some (.lst (TT.encs ts)) := (g6.old _ kn (by omega)).trans gk
            have kn2 : h5.nx < h6.nx := Nat.lt_of_lt_of_le kn g6.le
            have l7 := g6.lt
            have q2 : (ts.length + 1) * cT dp = ts.length * cT dp + cT dp := Nat.succ_mul _ _
            have q3 : (((ts.length + 1 : Nat) : Int) * (cT dp : Int)) = ((ts.length * cT dp + cT dp : Nat) : Int) := by rw [← q2]; push_cast; rfl
            refine ⟨gk2, ts ++ [t'], by rw [TT.encs_map, TT.encs_map, List.map_append]; rfl, by rw [List.length_append]; rfl, by omega, ?_, ?_, by rw [get_set (by omega), if_pos rfl], kn2, ?_⟩
            · intro t m
              rcases List.mem_append.mp m with m | m
              · exact tt t m
              · rcases List.mem_singleton.mp m with rfl
                exact tr'
            · obtain ⟨x, y, z, g, p, r⟩ := u6
              exact ⟨x, y, z, by rw [get_set (by omega), if_neg n2]; exact g, p, by rw [q3]; rw [q1] at r; omega⟩
            · have g3 := gr.trans g6
              exact ⟨g3.le, by have := g3.lt; show h6.nx ≤ _; omega, fun j hj m => by rw [get_set (by omega), if_neg (by omega)]; exact g3.old j hj m, g3.lk⟩
          · cases ew
        · rintro k ys h' ⟨ts, rfl, lt, it, tt, u', gk, rfl, kn, gr⟩
          rw [rngW_len] at lt u' gr
          refine w_btup (rdL_of gk) ⟨by decide, fin ts lt tt h' u' gr⟩
      split
      · refine ⟨by decide, by omega, kids [2, 2, 2, 2, 1, 3] rfl ?_⟩
        intro x m
        simp at m
        omega
      · refine ⟨by decide, by omega, kids [2, 2, 2, 2, 1, 2] rfl ?_⟩
        intro x m
        simp at m
        omega
end
end L37
namespace EV
open PySem
theorem srcET_at (ws : List W) (i : Nat) (h : Hpe) (hi : i ≤ ws.length) : srcET ws h i = some ((ws.zipIdx.map fun p => W.tup [.int (p.2 : Int), p.1])[i]?) := by
  unfold srcET
  rw [List.getElem?_map, List.getElem?_zipIdx]
  cases e : ws[i]? with
  | some w => simp
  | none =>
    have : ws.length = i := by
      have := List.getElem?_eq_none_iff.mp e
      omega
    simp [this]
end EV
namespace L37
open PySem EV
section
local macro_rules | `(tactic| w_up) => `(tactic| simp only [w_seq, w_nil, w_rt, w_rtN, w_ex, w_as, w_if, w_par, w_rs, w_au, w_v, w_k, w_aN, w_aC, w_e2, w_tup, w_lst, w_cl, w_cl0, w_bl, w_asB, w_asT, w_tNt, w_tAn, w_tOr, w_tYs, w_eIf, w_eAn, w_eNtT, w_eOrT, w_oS, w_oN, w_eIs, w_eIs2, w_mt, w_mt0, wp_ok, wp_exc, List.getElem?_cons_zero, List.getElem?_cons_succ, List.set_cons_zero, List.set_cons_succ, Option.some.injEq, exists_eq_left', nc_int, nc_bl, nc_tup, nc_ref, nc_non, nc_str, true_and, and_true, List.length_cons, List.length_nil, List.map_cons, List.map_nil, W.bl.injEq, W.int.injEq, Bool.not_true, Bool.not_false, Bool.not_not, Bool.false_eq_true, if_true, if_false, iw_tup, iw_int, iw_bl, iw_str, iw_non, tr_bl, tr_int, tr_tup, tr_non, Bool.or_true, Bool.or_false, Bool.true_or, wipeR, qe_bl, qe_int, qe_non, isN_f, isN_t, beq_self_eq_true, bne_self_eq_false, Bool.false_bne, Bool.true_bne, o_gI, o_gI0, o_gB0, o_mulI, add_ii, o_mulW, o_addW, wd_fold, nc_wd, tr_wd, w_sl, sl_wd, cut_toN, cut_frN, qe_wd, len_wd])
variable {d : Nat} {h : Hpe} {m : Int}
theorem two_call {t : TT} (g : t.gd) : callE (d + 1) 16 [t.enc, .int m] h = .ok (.bl (t.two m)) h := by
  have p := TT.gd_p t g
  rw [callE_at, show (bodies (callE d)).get 16 = frm (runB 2 (F__law_is_two (callE d))) from rfl]
  have nr : noRefs [t.enc, .int m] = true := by rw [noRefs_c, noRefs_c, p.n]; rfl
  refine frm_is nr rfl ?_ h
  rw [run_eq]
  show (F__law_is_two (callE d) [some t.enc, some (.int m)] Hpe.nil).Wp _
  unfold F__law_is_two
  cases t with
  | lf w =>
    obtain ⟨s, r, e, ne⟩ : LfW w := p.ok
    have e2 : (TT.lf w).enc = .tup (.str s :: r) := e
    rw [e2]
    w_up
    refine wp_eq (ix_t (atI_0 _ _)) (wp_eq (ne false _) ?_)
    refine ⟨false, rfl, ?_⟩
    rfl
  | mk k ks =>
    have e2 : (TT.mk k ks).enc = .tup [.str "make", .int k, .tup (TT.encs ks)] := rfl
    have tl := two_len (m := m) (k := k) (ks := ks)
    rw [e2]
    w_up
    refine wp_eq (ix_t (atI_0 _ _)) (wp_eq eq_make ?_)
    refine ⟨true, rfl, ?_⟩
    w_up
    refine wp_eq (ix_t (w := .int k) (atI_n (i := 1) rfl)) ?_
    w_up
    cases c : k == m with
    | false =>
      rw [c, Bool.false_and] at tl
      rw [← tl]
      simp only [Bool.false_eq_true, if_false]
    | true =>
      rw [c, Bool.true_and] at tl
      simp only [if_true]
      refine wp_eq (ix_t (w := .tup (TT.encs ks)) (atI_n (i := 2) rfl)) ?_
      rw [len_t, encs_len]
      w_up
      exact tl
def wyL (w : List Nat) : List Int := w.map fun i : Nat => (i : Int)
def wyW (w : List Nat) : W := wd (wyL w)
mutual
theorem spots_len : ∀ t : TT, (t.spots m).length ≤ t.sz
  | .lf _ => Nat.zero_le _
  | .mk k ks => by
    have := spotss_len 0 ks
    show ((bif EV.top m k ks then [[]] else []) ++ TT.spotss m 0 ks).length ≤ TT.szs ks + 1
    rw [List.length_append]
    cases EV.top m k ks <;> simp <;> omega
theorem spotss_len : ∀ (i : Nat) (ks : List TT), (TT.spotss m i ks).length ≤ TT.szs ks
  | _, [] => Nat.zero_le _
  | i, k :: ks => by
    have := spots_len k
    have := spotss_len (i + 1) ks
    show ((TT.spots m k).map (fun w => i :: w) ++ TT.spotss m (i + 1) ks).length ≤ k.sz + TT.szs ks
    rw [List.length_append, List.length_map]
    omega
end
theorem spotss_app : ∀ (a b : List TT) (i : Nat), TT.spotss m i (a ++ b) = TT.spotss m i a ++ TT.spotss m (i + a.length) b
  | [], b, i => by simp [TT.spotss]
  | k :: a, b, i => by
    show (TT.spots m k).map (fun w => i :: w) ++ TT.spotss m (i + 1) (a ++ b) = ((TT.spots m k).map (fun w => i :: w) ++ TT.spotss m (i + 1) a) ++ TT.spotss m (i + (a.length + 1)) b
    rw [spotss_app a b (i + 1), List.append_assoc, show i + 1 + a.length = i + (a.length + 1) by omega]
theorem kid_gd {k : Int} {ks : List TT} {c : TT} (g : (TT.mk k ks).gd) (mm : c ∈ ks) : c.gd := fun w hw => g w (by
  show w ∈ TT.lvss ks
  clear g
  induction ks with
  | nil => cases mm
  | cons a ks ih =>
    show w ∈ a.lvs ++ TT.lvss ks
    rcases List.mem_cons.mp mm with rfl | mm
    · exact List.mem_append.mpr (.inl hw)
    · exact List.mem_append.mpr (.inr (ih mm)))
theorem kid_bd {k : Int} {ks : List TT} {c : TT} (mm : c ∈ ks) : c.bd + 1 ≤ (TT.mk k ks).bd := by
  have h := bcomb_max (TT.bls ks)
  have z : c.bd ≤ lmax (TT.bls ks) := by
    clear h
    induction ks with
    | nil => cases mm
    | cons a ks ih =>
      show c.bd ≤ max a.bd (lmax (TT.bls ks))
      rcases List.mem_cons.mp mm with rfl | mm
      · omega
      · have := ih mm
        omega
  show c.bd + 1 ≤ bcomb (TT.bls ks)
  omega
theorem kid_sz {k : Int} {ks : List TT} {c : TT} (mm : c ∈ ks) : c.sz + 1 ≤ (TT.mk k ks).sz := by
  show c.sz + 1 ≤ TT.szs ks + 1
  induction ks with
  | nil => cases mm
  | cons a ks ih =>
    show c.sz + 1 ≤ a.sz + TT.szs ks + 1
    rcases List.mem_cons.mp mm with rfl | mm
    · omega
    · have := ih mm
      omega
theorem spots_wlen : ∀ (w : List Nat) (t : TT), w ∈ t.spots m → w.length ≤ t.sz
  | w, .lf v, h => by cases h
  | [], t, h => Nat.zero_le _
  | i :: w, .mk k ks, h => by
    obtain ⟨c, ec, hv⟩ := spots_cons h
    have := spots_wlen w c hv
    have := kid_sz (k := k) (List.mem_of_getElem? ec)
    show w.length + 1 ≤ _
    omega
theorem w_iET {fs : FA} {ρ : Rho} {h : Hpe} {Q : Src → Hpe → Prop} {E : Exc → Hpe → Prop} {us : List W} (e : fs ρ h = .ok [.tup us] h) (q : Q (srcET us) h) : (iET fs ρ h).Wp Q E := by
  unfold iET
  rw [e]
  exact q
theorem spots_call : ∀ (b : Nat) (t : TT) (e : Nat) (h : Hpe), t.bd ≤ b → b + 3 ≤ e → t.gd → t.sz ≤ 2000 → h.nx + 4 * t.sz ≤ 1000000 → h.lk = [] →
    ∃ a h', callE e 15 [t.enc, .int m] h = .ok (.ref a) h' ∧ h'.get a = some (.lst ((t.spots m).map wyW)) ∧ h.nx ≤ a ∧ a < h'.nx ∧ Gr noM (4 * t.sz - 2) h h' := by
  intro b
  induction b with
  | zero => ?_
  | succ b ih => ?_
  all_goals
    intro t e h hb he g sz nx lk
    obtain ⟨e, rfl⟩ : ∃ e', e = e' + 3 := ⟨e - 3, by omega⟩
    have p := TT.gd_p t g
    suffices z : (callE (e + 3) 15 [t.enc, .int m] h).Wp (fun u h' => ∃ a, u = .ref a ∧ h'.get a = some (.lst ((t.spots m).map wyW)) ∧ h.nx ≤ a ∧ a < h'.nx ∧ Gr noM (4 * t.sz - 2) h h') (fun _ _ => False) by
      obtain ⟨u, h', e, a, rfl, z⟩ := wp_ex z
      exact ⟨a, h', e, z⟩
    rw [callE_at, show (bodies (callE (e + 2))).get 15 = runB 6 (F__law_spots (callE (e + 2))) from rfl, run_eq]
    show (F__law_spots (callE (e + 2)) [some t.enc, some (.int m), none, none, none, none] h).Wp _
    unfold F__law_spots
    have leaf : ∀ w, t = .lf w → (F__law_spots (callE (e + 2)) [some t.enc, some (.int m), none, none, none, none] h).Wp ⟨fun _ h' => ∃ a, W.non = .ref a ∧ h'.get a = some (.lst ((t.spots m).map wyW)) ∧ h.nx ≤ a ∧ a < h'.nx ∧ Gr noM (4 * t.sz - 2) h h', fun u h' => ∃ a, u = .ref a ∧ h'.get a = some (.lst ((t.spots m).map wyW)) ∧ h.nx ≤ a ∧ a < h'.nx ∧ Gr noM (4 * t.sz - 2) h h', fun _ _ => False, fun _ _ => False, fun _ _ _ => False⟩ := by
      rintro w rfl
      obtain ⟨s, r, e1, ne⟩ : LfW w := p.ok
      have e2 : (TT.lf w).enc = .tup (.str s :: r) := e1
      unfold F__law_spots
      rw [e2]
      w_up
      refine wp_eq (ix_t (atI_0 _ _)) (wp_eq (ne true _) ?_)
      w_up
      refine ⟨rfl, by omega, h.nx, rfl, new_get _ (by omega), Nat.le_refl _, Nat.lt_succ_self _, (Gr.new _).mono (by show 1 ≤ 4 * 1 - 2; omega) fun _ _ z => z⟩
  · cases t with
    | lf w => exact leaf w rfl
    | mk k ks =>
      have := bcomb_max (TT.bls ks)
      have hb : bcomb (TT.bls ks) ≤ 0 := hb
      omega
  · cases t with
    | lf w => exact leaf w rfl
    | mk k ks =>
      clear leaf
      have eE : (TT.mk k ks).enc = .tup [.str "make", .int k, .tup (TT.encs ks)] := rfl
      have tl := two_len (m := m) (k := k) (ks := ks)
      have lks := TT.szs_len ks
      have szk : (TT.mk k ks).sz = TT.szs ks + 1 := rfl
      have kids : ∀ c ∈ ks, c.gd ∧ c.bd ≤ b ∧ c.sz ≤ 2000 := fun c mm => ⟨kid_gd g mm, by have := kid_bd (k := k) mm; omega, by have := kid_sz (k := k) mm; omega⟩
      have loop : ∀ (D : Po) (h0 : Hpe) (a0 : Nat) (base : List (List Nat)), base.length ≤ 1 → h0.get a0 = some (.lst (base.map wyW)) → h.nx ≤ a0 → a0 < h0.nx → Gr noM 2 h h0 →
          (∀ h' a s3 s4 s5, h'.get a = some (.lst ((base ++ TT.spotss m 0 ks).map wyW)) → h.nx ≤ a → a < h'.nx → Gr noM (4 * (TT.mk k ks).sz - 2) h h' → D.nx [some (.tup [.str "make", .int k, .tup (TT.encs ks)]), some (.int m), some (.ref a), s3, s4, s5] h') →
          (sFor (iOr (tupR (aC (e2 gIx2 (eV 0) (eK (.int 2))) aN)) (iET (aC (e2 gIx2 (eV 0) (eK (.int 2))) aN)) (iEL (aC (e2 gIx2 (eV 0) (eK (.int 2))) aN))) (gTL 2 (gsC (gN 3) (gsC (gN 4) gsN))) (sSeq (sUn (sAs (e2 gAdd (eV 2) (eLc (iV3 (eCl 2 (callE (e + 2) 15) (aC (eV 4) (aC (eV 1) aN)))) (gN 5) tYs (e2 gAdd (eTup (aC (eV 3) aN)) (eV 5)) [5])) (gN 2))) sNil)
            [some (.tup [.str "make", .int k, .tup (TT.encs ks)]), some (.int m), some (.ref a0), none, none, none] h0).Wp D := by
        intro D h0 a0 base b1 g0 a0l a0n gr0 q
        with_reducible refine w_for ((TT.encs ks).zipIdx.map fun p => W.tup [.int (p.2 : Int), p.1]) (fun i ρ h' => ∃ (a : Nat) (s3 s4 s5 : Option W), ρ = [some (.tup [.str "make", .int k, .tup (TT.encs ks)]), some (.int m), some (.ref a), s3, s4, s5] ∧ i ≤ ks.length ∧ h'.get a = some (.lst ((base ++ TT.spotss m 0 (ks.take i)).map wyW)) ∧ h.nx ≤ a ∧ a < h'.nx ∧ Gr noM (2 + 4 * TT.szs (ks.take i)) h h') ?_ ?_ ?_ ?_
        · rw [List.length_map, List.length_zipIdx, encs_len]; omega
        · rw [w_iOr, if_pos (show tupR (aC (e2 gIx2 (eV 0) (eK (.int 2))) aN) [some (.tup [.str "make", .int k, .tup (TT.encs ks)]), some (.int m), some (.ref a0), none, none, none] h0 = true from rfl)]
          refine w_iET (us := TT.encs ks) rfl ⟨⟨a0, none, none, none, rfl, Nat.zero_le _, ?_, a0l, a0n, gr0.mono (by omega) fun _ _ z => z⟩, ?_⟩
          · rw [List.take_zero]
            show _ = some (Ob.lst ((base ++ []).map wyW))
            rw [List.append_nil]
            exact g0
          · rintro i ρ h' ⟨_, _, _, _, _, hi, _⟩
            exact srcET_at _ i h' (by rw [encs_len]; exact hi)
        · rintro i w ρ h' ew ⟨a, s3, s4, s5, rfl, hi, ga, al, an, gr⟩
          rw [List.getElem?_map, List.getElem?_zipIdx] at ew
          cases ei : (TT.encs ks)[i]? with
          | none => rw [ei] at ew; cases ew
          | some v =>
            rw [ei] at ew
            obtain ⟨c, ec, rfl⟩ := enc_at ei
            have ew : some (W.tup [.int ((0 + i : Nat) : Int), c.enc]) = some w := ew
            rw [Nat.zero_add] at ew
            cases ew
            have hi2 := (List.getElem?_eq_some_iff.mp ec).1
            obtain ⟨gc, bc, sc⟩ := kids c (List.mem_of_getElem? ec)
            have tk : ks.take (i + 1) = ks.take i ++ [c] := by rw [List.take_add_one, ec]; rfl
            have stk : TT.szs (ks.take (i + 1)) = TT.szs (ks.take i) + c.sz := by rw [tk, TT.szs_app]; rfl
            have ssp := TT.szs_app (ks.take (i + 1)) (ks.drop (i + 1))
            rw [List.take_append_drop] at ssp
            have grl := gr.lt
            have lk' := gr.lk.trans lk
            have scp := c.sz_pos
            obtain ⟨a1, h1, e1, g1, al1, an1, gr1⟩ := ih c (e + 2) h' bc (by omega) gc sc (by omega) lk'
            have grl1 := gr1.lt
            have gle1 := gr1.le
            have ln1 := spots_len (m := m) c
            have ln2 := spotss_len (m := m) 0 (ks.take i)
            rw [w_gT2]
            w_up
            rw [w_un]
            w_up
            with_reducible refine w_lc ((c.spots m).map wyW) (fun j ys hh => hh = h1 ∧ j ≤ (c.spots m).length ∧ ys = ((c.spots m).take j).map fun w => wyW (i :: w)) ?_ ?_ ?_ ?_
            · rw [List.length_map]; omega
            · refine w_iL ?_
              w_up
              refine ⟨enc_nc (TT.gd_p c gc).ok, wp_eq e1 ⟨a1, _, rfl, g1, ⟨rfl, Nat.zero_le _, rfl⟩, ?_⟩⟩
              rintro j ys hh ⟨rfl, _, _⟩
              exact srcL_at (rdL_of g1) j
            · rintro j w ys hh ew ⟨rfl, lj, rfl⟩
              rw [List.getElem?_map] at ew
              cases ej : (c.spots m)[j]? with
              | none => rw [ej] at ew; cases ew
              | some v =>
                rw [ej] at ew
                cases ew
                have lj2 := (List.getElem?_eq_some_iff.mp ej).1
                rw [w_gN]
                w_up
                have lv := spots_wlen v c (List.mem_of_getElem? ej)
                refine ⟨by decide, rfl, ?_⟩
                show (gAdd (wd [(i : Int)]) (wd (wyL v)) hh).Wp _ _
                rw [o_addW]
                refine ⟨by rw [show (wyL v).length = v.length from List.length_map ..]; show 1 + _ ≤ _; omega, rfl, by omega, ?_⟩
                rw [List.take_add_one, ej, List.map_append]
                rfl
            · rintro ys hh ⟨rfl, lj, rfl⟩
              rw [List.length_map, List.take_length]
              refine ⟨by omega, ?_⟩
              have gN' := new_get (h := hh) (.lst ((c.spots m).map fun w => wyW (i :: w))) (by omega)
              have grN : Gr noM 1 hh (hh.new (.lst ((c.spots m).map fun w => wyW (i :: w)))) := Gr.new _
              have xN : (hh.new (.lst ((c.spots m).map fun w => wyW (i :: w)))).nx = hh.nx + 1 := rfl
              generalize hh.new (.lst ((c.spots m).map fun w => wyW (i :: w))) = h2 at gN' grN xN ⊢
              have ga2 := ((gr1.trans grN).old a an fun z => z).trans ga
              refine w_addL ga2 gN' (by rw [List.length_map, List.length_append, List.length_map]; omega) (by omega) ?_
              have lk2 := (gr1.trans grN).lk.trans lk'
              rw [unl_nil lk' (show (h2.new _).lk = [] from lk2)]
              refine ⟨h2.nx, _, _, _, rfl, by omega, ?_, by omega, Nat.lt_succ_self _, ?_⟩
              · have eqn : base ++ TT.spotss m 0 (ks.take i ++ [c]) = (base ++ TT.spotss m 0 (ks.take i)) ++ (c.spots m).map (fun w => i :: w) := by
                  rw [spotss_app, ← List.append_assoc, List.length_take, Nat.min_eq_left (by omega), Nat.zero_add]
                  show _ ++ ((c.spots m).map (fun w => i :: w) ++ []) = _
                  rw [List.append_nil]
                rw [new_get _ (by omega), tk, eqn, List.map_append (l₂ := (c.spots m).map (fun w => i :: w)), List.map_map]
                rfl
              · rw [stk]
                exact ((gr.trans gr1).trans (grN.trans (Gr.new _))).mono (by omega) fun _ _ z => z
        · rintro ρ h' ⟨a, s3, s4, s5, rfl, hi, ga, al, an, gr⟩
          rw [List.length_map, List.length_zipIdx, encs_len] at ga gr
          rw [List.take_length] at ga gr
          exact q h' a s3 s4 s5 ga al an (gr.mono (by omega) fun _ _ z => z)
      have sp : (TT.mk k ks).spots m = (bif EV.top m k ks then [[]] else []) ++ TT.spotss m 0 ks := rfl
      rw [eE, w_seq]
      w_up
      refine wp_eq (ix_t (atI_0 _ _)) (wp_eq eq_make ⟨false, rfl, ?_⟩)
      simp only [Bool.false_eq_true, if_false]
      have ga := new_get (h := h) (.lst []) (by omega)
      have gr1 : Gr noM 1 h (h.new (.lst [])) := Gr.new _
      have x1 : (h.new (.lst [])).nx = h.nx + 1 := rfl
      generalize h.new (.lst []) = h1 at ga gr1 x1 ⊢
      have fin : ∀ (h' : Hpe) (a : Nat) (s3 s4 s5 : Option W) (base : List (List Nat)), base = (bif EV.top m k ks then [[]] else []) → h'.get a = some (.lst ((base ++ TT.spotss m 0 ks).map wyW)) → h.nx ≤ a → a < h'.nx → Gr noM (4 * (TT.mk k ks).sz - 2) h h' → ∃ w, [some (.tup [.str "make", .int k, .tup (TT.encs ks)]), some (.int m), some (.ref a), s3, s4, s5][2]? = some (some w) ∧ noClo w = true ∧ ∃ a, w = .ref a ∧ h'.get a = some (.lst (((TT.mk k ks).spots m).map wyW)) ∧ h.nx ≤ a ∧ a < h'.nx ∧ Gr noM (4 * (TT.mk k ks).sz - 2) h h' := by
        rintro h' a s3 s4 s5 base rfl g1 g2 g3 g4
        exact ⟨_, rfl, rfl, a, rfl, by rw [sp]; exact g1, g2, g3, g4⟩
      have plain : EV.top m k ks = false → (sFor (iOr (tupR (aC (e2 gIx2 (eV 0) (eK (.int 2))) aN)) (iET (aC (e2 gIx2 (eV 0) (eK (.int 2))) aN)) (iEL (aC (e2 gIx2 (eV 0) (eK (.int 2))) aN))) (gTL 2 (gsC (gN 3) (gsC (gN 4) gsN))) (sSeq (sUn (sAs (e2 gAdd (eV 2) (eLc (iV3 (eCl 2 (callE (e + 2) 15) (aC (eV 4) (aC (eV 1) aN)))) (gN 5) tYs (e2 gAdd (eTup (aC (eV 3) aN)) (eV 5)) [5])) (gN 2))) sNil)
            [some (.tup [.str "make", .int k, .tup (TT.encs ks)]), some (.int m), some (.ref h.nx), none, none, none] h1).Wp ⟨fun ρ h' => ∃ w, ρ[2]? = some (some w) ∧ noClo w = true ∧ ∃ a, w = .ref a ∧ h'.get a = some (.lst (((TT.mk k ks).spots m).map wyW)) ∧ h.nx ≤ a ∧ a < h'.nx ∧ Gr noM (4 * (TT.mk k ks).sz - 2) h h', fun u h' => ∃ a, u = .ref a ∧ h'.get a = some (.lst (((TT.mk k ks).spots m).map wyW)) ∧ h.nx ≤ a ∧ a < h'.nx ∧ Gr noM (4 * (TT.mk k ks).sz - 2) h h', fun _ _ => False, fun _ _ => False, fun _ _ _ => False⟩ := by
        intro tp
        refine loop _ h1 h.nx [] (Nat.zero_le _) ga (Nat.le_refl _) (by omega) (gr1.mono (by omega) fun _ _ z => z) fun h' a s3 s4 s5 g1 g2 g3 g4 => fin h' a s3 s4 s5 [] (by rw [tp]; rfl) g1 g2 g3 g4
      refine ⟨rfl, by omega, wp_eq (ix_t (w := .int k) (atI_n (i := 1) rfl)) ?_⟩
      rw [qe_int]
      refine ⟨k == m, by rw [Bool.false_bne], ?_⟩
      cases c1 : k == m with
      | false =>
        simp only [Bool.false_eq_true, if_false]
        refine plain ?_
        match ks, c1 with
        | [x, y], c1 =>
          show ((k == m) && x.two m) = false
          rw [c1]
          rfl
        | [], _ => rfl
        | [x], _ => rfl
        | x :: y :: z :: l, _ => rfl
      | true =>
        rw [c1, Bool.true_and] at tl
        simp only [if_true]
        refine wp_eq (ix_t (w := .tup (TT.encs ks)) (atI_n (i := 2) rfl)) ?_
        rw [len_t, encs_len, wp_ok, qe_int]
        refine ⟨(TT.mk k ks).two m, by rw [Bool.false_bne]; exact congrArg W.bl tl, ?_⟩
        cases c2 : (TT.mk k ks).two m with
        | false =>
          simp only [Bool.false_eq_true, if_false]
          refine plain ?_
          match ks, tl, c2 with
          | [x, y], tl, c2 =>
            rw [c2] at tl
            cases tl
          | [], _, _ => rfl
          | [x], _, _ => rfl
          | x :: y :: z :: l, _, _ => rfl
        | true =>
          obtain ⟨x, y, exy⟩ := TT.two_iff c2
          cases exy
          simp only [if_true]
          refine wp_eq (ix_t (w := .tup (TT.encs [x, y])) (atI_n (i := 2) rfl)) (wp_eq (ix_t (w := x.enc) (atI_0 _ _)) ?_)
          refine wp_eq (two_call (d := e + 1) (m := m) (kids x (List.mem_cons_self ..)).1) ⟨x.two m, rfl, ?_⟩
          have tt : EV.top m m [x, y] = x.two m := by
            show ((m == m) && x.two m) = _
            rw [show (m == m) = true from beq_iff_eq.mpr rfl, Bool.true_and]
          cases c3 : x.two m with
          | false =>
            simp only [Bool.false_eq_true, if_false]
            exact plain (by rw [tt, c3])
          | true =>
            simp only [if_true]
            refine ⟨rfl, by decide, by omega, ?_⟩
            refine loop _ _ h1.nx [[]] (Nat.le_refl _) (new_get _ (by omega)) (by omega) (Nat.lt_succ_self _) ((gr1.trans (Gr.new _)).mono (by omega) fun _ _ z => z) fun h' a s3 s4 s5 g1 g2 g3 g4 => fin h' a s3 s4 s5 [[]] (by rw [tt, c3]; rfl) g1 g2 g3 g4
end
end L37
namespace L37
open PySem EV
section
local macro_rules | `(tactic| w_up) => `(tactic| simp only [w_seq, w_nil, w_rt, w_rtN, w_ex, w_as, w_if, w_par, w_rs, w_au, w_v, w_k, w_aN, w_aC, w_e2, w_tup, w_lst, w_cl, w_cl0, w_bl, w_asB, w_asT, w_tNt, w_tAn, w_tOr, w_tYs, w_eIf, w_eAn, w_eNtT, w_eOrT, w_oS, w_oN, w_eIs, w_eIs2, w_mt, w_mt0, wp_ok, wp_exc, List.getElem?_cons_zero, List.getElem?_cons_succ, List.set_cons_zero, List.set_cons_succ, Option.some.injEq, exists_eq_left', nc_int, nc_bl, nc_tup, nc_ref, nc_non, nc_str, true_and, and_true, List.length_cons, List.length_nil, List.map_cons, List.map_nil, W.bl.injEq, W.int.injEq, Bool.not_true, Bool.not_false, Bool.not_not, Bool.false_eq_true, if_true, if_false, iw_tup, iw_int, iw_bl, iw_str, iw_non, tr_bl, tr_int, tr_tup, tr_non, Bool.or_true, Bool.or_false, Bool.true_or, wipeR, qe_bl, qe_int, qe_non, isN_f, isN_t, beq_self_eq_true, bne_self_eq_false, Bool.false_bne, Bool.true_bne, o_gI, o_gI0, o_gB0, o_mulI, add_ii, o_mulW, o_addW, wd_fold, nc_wd, tr_wd, w_sl, sl_wd, cut_toN, cut_frN, qe_wd, len_wd])
variable {d : Nat} {h : Hpe} {m : Int}
theorem set_enc {ks : List TT} {i : Nat} {c' : TT} (hi : i < ks.length) : ((TT.encs ks).take i ++ [c'.enc]) ++ (TT.encs ks).drop (i + 1) = TT.encs (ks.set i c') := by
  rw [TT.encs_map, TT.encs_map, List.map_set, List.set_eq_take_append_cons_drop, List.length_map, if_pos hi, List.append_assoc]
  rfl
theorem gd_mv {t t' : TT} (g : t.gd) (l : t'.lvs = t.lvs) : t'.gd := fun w hw => g w (by rw [← l]; exact hw)
theorem wy_nr (w : List Nat) : noRef (wyW w) = true := by
  unfold wyW wd
  rw [noRef_t]
  induction wyL w with
  | nil => rfl
  | cons a l ih =>
    rw [List.map_cons, noRefs_c, ih]
    rfl
theorem moved_call : ∀ (w : List Nat) (t : TT) (e : Nat) (h : Hpe), w ∈ t.spots m → t.gd → w.length + 1 ≤ e → t.sz ≤ 2000 → callE e 17 [t.enc, wyW w] h = .ok (TT.mv w t).enc h := by
  intro w
  induction w with
  | nil => ?_
  | cons i w ih => ?_
  all_goals
    intro t e h hs g he sz
    obtain ⟨e, rfl⟩ : ∃ e', e = e' + 1 := ⟨e - 1, by omega⟩
    have p := TT.gd_p t g
    rw [callE_at, show (bodies (callE e)).get 17 = frm (runB 4 (F__law_moved (callE e))) from rfl]
    have mp := (mv_p _ t hs).1
    refine frm_is (by rw [noRefs_c, noRefs_c, p.n, wy_nr]; rfl) (TT.gd_p _ (gd_mv g mp.l)).n ?_ h
    rw [run_eq]
  · cases t with
    | lf v => cases hs
    | mk k ks =>
      obtain ⟨rfl, x, y, z, rfl⟩ := top_iff (spots_nil hs)
      show (F__law_moved (callE e) [some (.tup [.str "make", .int k, .tup [.tup [.str "make", .int k, .tup [x.enc, y.enc]], z.enc]]), some (wd []), none, none] Hpe.nil).Wp _
      unfold F__law_moved
      w_up
      refine ⟨rfl, ?_⟩
      rw [show (W.tup []) = wd [] from rfl, qe_wd]
      refine ⟨false, rfl, ?_⟩
      simp only [Bool.false_eq_true, if_false]
      rw [w_asG]
      w_up
      refine wp_eq (ix_t (w := .tup [.tup [.str "make", .int k, .tup [x.enc, y.enc]], z.enc]) (atI_n (i := 2) rfl)) ?_
      rw [cl_gT2]
      w_up
      have ok : x.ok ∧ y.ok ∧ z.ok := by
        obtain ⟨⟨a, b, _⟩, c, _⟩ : ((x.ok ∧ (y.ok ∧ True)) ∧ (z.ok ∧ True)) := p.ok
        exact ⟨a, b, c⟩
      have i1 : gIx2 (.tup [.str "make", .int k, .tup [.tup [.str "make", .int k, .tup [x.enc, y.enc]], z.enc]]) (.int 1) Hpe.nil = .ok (.int k) Hpe.nil := ix_t (atI_n (i := 1) rfl)
      have j2 : gIx2 (.tup [.str "make", .int k, .tup [x.enc, y.enc]]) (.int 2) Hpe.nil = .ok (.tup [x.enc, y.enc]) Hpe.nil := ix_t (atI_n (i := 2) rfl)
      refine wp_eq i1 (wp_eq j2 (wp_eq (ix_t (w := x.enc) (atI_0 _ _)) (wp_eq i1 (wp_eq j2 (wp_eq (ix_t (w := y.enc) (atI_n (i := 1) rfl)) ?_)))))
      exact ⟨enc_nc ok.2.2, by decide, by decide, by decide, by decide, rfl⟩
  · cases t with
    | lf v => cases hs
    | mk k ks =>
      obtain ⟨c, ec, hv⟩ := spots_cons hs
      have eE : (TT.mk k ks).enc = .tup [.str "make", .int k, .tup (TT.encs ks)] := rfl
      have mvE : TT.mv (i :: w) (.mk k ks) = .mk k (ks.set i (TT.mv w c)) := by rw [TT.mv, ec]
      show (F__law_moved (callE e) [some (.tup [.str "make", .int k, .tup (TT.encs ks)]), some (wd (wyL (i :: w))), none, none] Hpe.nil).Wp _
      unfold F__law_moved
      w_up
      have hi := (List.getElem?_eq_some_iff.mp ec).1
      have lks := TT.szs_len ks
      have szk : (TT.mk k ks).sz = TT.szs ks + 1 := rfl
      have ei : (TT.encs ks)[i]? = some c.enc := by rw [TT.encs_map, List.getElem?_map, ec]; rfl
      have gc := kid_gd g (List.mem_of_getElem? ec)
      have sc := kid_sz (k := k) (List.mem_of_getElem? ec)
      have he : w.length + 1 + 1 ≤ e + 1 := he
      refine ⟨rfl, ?_⟩
      rw [show (W.tup []) = wd [] from rfl, qe_wd]
      refine ⟨true, rfl, ?_⟩
      simp only [if_true]
      have s2 : ∀ h, slW (.tup [.str "make", .int k, .tup (TT.encs ks)]) none (some 2) h = .ok (.tup [.str "make", .int k]) h := fun _ => rfl
      have s3 : ∀ h, slW (.tup (TT.encs ks)) none (some (i : Int)) h = .ok (.tup ((TT.encs ks).take i)) h := fun h => by
        show Res.ok (W.tup (cutW _ _ _)) h = _
        rw [cut_t]
      have s4 : ∀ h, slW (.tup (TT.encs ks)) (some ((i + 1 : Nat) : Int)) none h = .ok (.tup ((TT.encs ks).drop (i + 1))) h := fun h => by
        show Res.ok (W.tup (cutW _ _ _)) h = _
        rw [cut_fr]
      have i2 : ∀ h, gIx2 (.tup [.str "make", .int k, .tup (TT.encs ks)]) (.int 2) h = .ok (.tup (TT.encs ks)) h := fun h => ix_t (w := .tup (TT.encs ks)) (atI_n (i := 2) rfl)
      have w0 : ∀ h, gIx2 (wd (wyL (i :: w))) (.int 0) h = .ok (.int (i : Int)) h := fun h => ix_wd (x := (i : Int)) (by decide) rfl
      refine wp_eq (s2 _) (wp_eq (i2 _) (wp_eq (w0 _) ⟨_, rfl, ?_⟩))
      refine wp_eq (s3 _) (wp_eq (i2 _) (wp_eq (w0 _) (wp_eq (ix_t (w := c.enc) (atI_n ei)) ?_)))
      rw [show cutW (List.map W.int (wyL (i :: w))) (some 1) none = (wyL w).map W.int from cut_fr (k := 1)]
      refine wp_eq (ih c e _ hv gc (by omega) (by omega)) ⟨rfl, ?_⟩
      rw [add_tt]
      refine ⟨by rw [List.length_take, encs_len]; show _ + 1 ≤ _; omega, wp_eq (i2 _) (wp_eq (w0 _) ?_)⟩
      rw [add_ii]
      refine ⟨_, rfl, ?_⟩
      rw [show (i : Int) + 1 = ((i + 1 : Nat) : Int) by omega]
      refine wp_eq (s4 _) ?_
      rw [add_tt]
      refine ⟨by rw [List.length_append, List.length_take, List.length_drop, encs_len]; show _ + 1 + _ ≤ _; omega, rfl, ?_⟩
      rw [set_enc hi, add_tt, mvE]
      exact ⟨Nat.le_of_ble_eq_true rfl, rfl⟩
end
end L37
namespace EV
open PySem
theorem toDs_dat {h : Hpe} {k : Nat} {ws : List W} (q : qdats ws = true) (l : dpWs ws < k) : mapO (toD k h) ws = some (dDs ws) := by
  have z := toD_dat h (k + 1) (.tup ws) q (by show dpWs ws + 1 < k + 1; omega)
  have z : (match mapO (toD k h) ws with | none => none | some ds => some (PyData.tuple ds)) = some (PyData.tuple (dDs ws)) := z
  cases e : mapO (toD k h) ws with
  | none => rw [e] at z; cases z
  | some ds =>
    rw [e] at z
    injection z with z
    injection z with z
    rw [z]
theorem qe_nil {n : Bool} {a b : Nat} {ws : List W} {h : Hpe} (ga : h.get a = some (.lst ws)) (gb : h.get b = some (.lst [])) (q : qdats ws = true) (d : dpWs ws ≤ 60) : gEq n (.ref a) (.ref b) h = .ok (.bl (n != ws.isEmpty)) h := by
  have ta : toD 70 h (.ref a) = some (.list (dDs ws)) := by
    show (match rdL h a with | none => none | some ws => (match mapO (toD 69 h) ws with | none => none | some ds => some (PyData.list ds))) = _
    rw [rdL_of ga]
    dsimp only
    rw [toDs_dat q (by omega)]
  have tb : toD 70 h (.ref b) = some (.list []) := by
    show (match rdL h b with | none => none | some ws => (match mapO (toD 69 h) ws with | none => none | some ds => some (PyData.list ds))) = _
    rw [rdL_of gb]
    rfl
  have sh : SeqAt.shaped (.list (dDs ws)) = true := by
    unfold SeqAt.shaped
    have l := lay_dats ws q
    have p := dep_dats ws q
    show (PyData.canLayAll0 (dDs ws) && decide (PyData.depthAll (dDs ws) + 1 ≤ 64)) = true
    rw [l, p]
    exact decide_eq_true (by omega)
  unfold gEq
  rw [ta, tb]
  dsimp only
  rw [sh]
  cases ws with
  | nil => rfl
  | cons w ws => rfl
end EV
namespace L37
open PySem EV
section
local macro_rules | `(tactic| w_up) => `(tactic| simp only [w_seq, w_nil, w_rt, w_rtN, w_ex, w_as, w_if, w_par, w_rs, w_au, w_v, w_k, w_aN, w_aC, w_e2, w_tup, w_lst, w_cl, w_cl0, w_bl, w_asB, w_asT, w_tNt, w_tAn, w_tOr, w_tYs, w_eIf, w_eAn, w_eNtT, w_eOrT, w_oS, w_oN, w_eIs, w_eIs2, w_mt, w_mt0, wp_ok, wp_exc, List.getElem?_cons_zero, List.getElem?_cons_succ, List.set_cons_zero, List.set_cons_succ, Option.some.injEq, exists_eq_left', nc_int, nc_bl, nc_tup, nc_ref, nc_non, nc_str, true_and, and_true, List.length_cons, List.length_nil, List.map_cons, List.map_nil, W.bl.injEq, W.int.injEq, Bool.not_true, Bool.not_false, Bool.not_not, Bool.false_eq_true, if_true, if_false, iw_tup, iw_int, iw_bl, iw_str, iw_non, tr_bl, tr_int, tr_tup, tr_non, Bool.or_true, Bool.or_false, Bool.true_or, wipeR, qe_bl, qe_int, qe_non, isN_f, isN_t, beq_self_eq_true, bne_self_eq_false, Bool.false_bne, Bool.true_bne, o_gI, o_gI0, o_gB0, o_mulI, add_ii, o_mulW, o_addW, wd_fold, nc_wd, tr_wd, w_sl, sl_wd, cut_toN, cut_frN, qe_wd, len_wd])
variable {d : Nat} {h : Hpe} {m : Int}
theorem wds_q : ∀ ws : List (List Nat), qdats (ws.map wyW) = true ∧ dpWs (ws.map wyW) ≤ 1
  | [] => ⟨rfl, Nat.zero_le _⟩
  | w :: ws => by
    have i : ∀ l : List Int, qdats (l.map W.int) = true ∧ dpWs (l.map W.int) = 0 := by
      intro l
      induction l with
      | nil => exact ⟨rfl, rfl⟩
      | cons a l ih => exact ⟨ih.1, by show max 0 (dpWs (l.map W.int)) = 0; rw [ih.2]; rfl⟩
    obtain ⟨a, b⟩ := i (wyL w)
    obtain ⟨a', b'⟩ := wds_q ws
    refine ⟨?_, ?_⟩
    · show (qdats ((wyL w).map W.int) && qdats (ws.map wyW)) = true
      rw [a, a']
      rfl
    · show max (dpWs ((wyL w).map W.int) + 1) (dpWs (ws.map wyW)) ≤ 1
      omega
theorem spots_wbd : ∀ (w : List Nat) (t : TT), w ∈ t.spots m → w.length ≤ t.bd
  | w, .lf v, h => by cases h
  | [], t, h => Nat.zero_le _
  | i :: w, .mk k ks, h => by
    obtain ⟨c, ec, hv⟩ := spots_cons h
    have := spots_wbd w c hv
    have := kid_bd (k := k) (List.mem_of_getElem? ec)
    show w.length + 1 ≤ _
    omega
theorem all_wp {t : TT} {n : Nat} {c : Int} (g : t.gd) (bd : t.bd ≤ 31) (sz : t.sz ≤ 200) (pt : t.pot ≤ 150) (u : UrnAt h n c) (hn : n < h.nx) (nx : h.nx ≤ 500000) (hc : c ≤ 1000000) (lk : h.lk = []) :
    (callE (d + 36) 18 [.ref n, t.enc, .int m] h).Wp (fun w h' => ∃ t' : TT, w = t'.enc ∧ MvS m t t' ∧ t'.spots m = [] ∧ UrnAt h' n (c + 200) ∧ Gr (· = n) 160000 h h') (fun _ _ => False) := by
  have p := TT.gd_p t g
  rw [callE_at, show (bodies (callE (d + 35))).get 18 = runB 6 (F__law_all_moved (callE (d + 35))) from rfl, run_eq]
  show (F__law_all_moved (callE (d + 35)) [some (.ref n), some t.enc, some (.int m), none, none, none] h).Wp _
  unfold F__law_all_moved
  w_up
  refine ⟨enc_nc p.ok, ?_⟩
  with_reducible refine w_for (rngW 0 200) (fun i ρ h' => ∃ (t' : TT) (s4 s5 : Option W), ρ = [some (.ref n), some t.enc, some (.int m), some t'.enc, s4, s5] ∧ MvS m t t' ∧ t'.pot + i ≤ t.pot ∧ i ≤ 150 ∧ UrnAt h' n (c + i) ∧ Gr (· = n) (i * 800) h h') ?_ ?_ ?_ ?_
  · rw [rngW_len]; decide
  · rw [w_iR1]
    w_up
    refine ⟨_, rfl, cR_of (by omega) (by omega), ⟨t, none, none, rfl, MvS.refl, Nat.le_refl _, Nat.zero_le _, urn_mono u (by omega), Gr.refl⟩, ?_⟩
    intro i ρ h' _
    exact srcR_at _ _ _ _
  · rintro i w ρ h' ew ⟨t', s4, s5, rfl, s, pl, i15, u', gr⟩
    rw [rngW_at] at ew
    split at ew
    · rename_i i2
      cases ew
      have g' : t'.gd := gd_mv g s.l
      have b' := s.b
      have z' := s.s
      have grl := gr.lt
      have gle := gr.le
      have lk' := gr.lk.trans lk
      rw [w_gN]
      w_up
      obtain ⟨a, h1, e1, g1, al, an, gr1⟩ := spots_call (m := m) 31 t' (d + 35) h' (by omega) (by omega) g' (by omega) (by omega) lk'
      have l1 := gr1.lt
      have le1 := gr1.le
      refine ⟨enc_nc (TT.gd_p _ g').ok, wp_eq e1 ⟨rfl, rfl, by omega, ?_⟩⟩
      have gn := new_get (h := h1) (.lst []) (by omega)
      have grn : Gr noM 1 h1 (h1.new (.lst [])) := Gr.new _
      have xn : (h1.new (.lst [])).nx = h1.nx + 1 := rfl
      generalize h1.new (.lst []) = h2 at gn grn xn ⊢
      have ga2 := (grn.old a an fun z => z).trans g1
      obtain ⟨wq, wdp⟩ := wds_q (t'.spots m)
      refine wp_eq (qe_nil ga2 gn wq (by omega)) ?_
      rw [Bool.false_bne]
      have gA : Gr (· = n) (i * 800 + 4 * t'.sz) h h2 := (gr.trans ((gr1.trans grn).mono (Nat.le_refl _) fun _ _ z => z.elim)).mono (by have := t'.sz_pos; omega) fun _ _ z => z
      have u2 := urn_gr u' (by omega) (gr1.trans grn)
      cases es : t'.spots m with
      | nil =>
        refine ⟨true, rfl, ?_⟩
        w_up
        refine ⟨enc_nc (TT.gd_p _ g').ok, t', rfl, s, es, urn_mono u2 (by omega), gA.mono (by omega) fun _ _ z => z⟩
      | cons w0 ws0 =>
        refine ⟨false, rfl, ?_⟩
        w_up
        rw [es] at ga2
        refine ⟨enc_nc (TT.gd_p _ g').ok, ?_⟩
        have ln := spots_len (m := m) t'
        rw [es] at ln
        have ln : ws0.length + 1 ≤ t'.sz := ln
        refine of_wp (d := d + 33) u2 (by omega) (by omega) ga2 (by omega) (by omega) (by show 0 < (ws0.map wyW).length + 1; omega) (by show (ws0.map wyW).length + 1 ≤ _; rw [List.length_map]; omega) fun j w h3 ew u3 g3 => ?_
        rw [List.getElem?_map] at ew
        cases ej : (w0 :: ws0)[j]? with
        | none => rw [ej] at ew; cases ew
        | some v =>
          rw [ej] at ew
          cases ew
          have hv : v ∈ t'.spots m := by rw [es]; exact List.mem_of_getElem? ej
          have vb := spots_wbd v t' hv
          obtain ⟨s2, p2⟩ := mv_p v t' hv
          refine wp_eq (moved_call v t' (d + 35) h3 hv g' (by omega) (by omega)) ?_
          refine ⟨TT.mv v t', _, _, rfl, s.trans s2, by omega, by omega, ?_, ?_⟩
          · exact urn_mono u3 (by omega)
          · exact (gA.trans g3).mono (by omega) fun _ _ z => z
    · cases ew
  · rintro ρ h' ⟨t', s4, s5, rfl, s, pl, i15, u', gr⟩
    rw [rngW_len] at i15
    exact absurd i15 (by decide)
end
end L37
namespace EV
theorem map_all_eq {α : Type} {f : TT → α} {ks ts : List TT} (l : ts.length = ks.length) (h : ∀ (j : Nat) (c c' : TT), ks[j]? = some c → ts[j]? = some c' → f c' = f c) : ts.map f = ks.map f := by
  apply List.ext_getElem?
  intro j
  rw [List.getElem?_map, List.getElem?_map]
  cases e : ks[j]? with
  | none =>
    have : ts[j]? = none := List.getElem?_eq_none (by have := List.getElem?_eq_none_iff.mp e; omega)
    rw [this]
  | some c =>
    have hj := (List.getElem?_eq_some_iff.mp e).1
    have e2 : ts[j]? = some ts[j] := List.getElem?_eq_getElem (by omega)
    rw [e2]
    show some (f ts[j]) = some (f c)
    rw [h j c _ e e2]
theorem mvS_kids {m k : Int} {ks ts : List TT} (l : ts.length = ks.length) (h : ∀ (j : Nat) (c c' : TT), ks[j]? = some c → ts[j]? = some c' → MvS m c c') : MvS m (.mk k ks) (.mk k ts) := by
  refine ⟨?_, ?_, ?_, ?_, ?_, fun o => ⟨(show k ≠ 3 ∧ TT.no3s ks from o).1, ?_⟩⟩
  · show cmk m k (TT.cmbs m ts) = cmk m k (TT.cmbs m ks)
    rw [TT.cmbs_map, TT.cmbs_map, map_all_eq l fun j c c' a b => (h j c c' a b).c]
  · show TT.lvss ts = TT.lvss ks
    rw [lvss_map, lvss_map, map_all_eq l fun j c c' a b => (h j c c' a b).l]
  · show bcomb (TT.bls ts) = bcomb (TT.bls ks)
    rw [bls_map, bls_map, map_all_eq l fun j c c' a b => (h j c c' a b).b]
  · show TT.szs ts + 1 = TT.szs ks + 1
    rw [szs_map, szs_map, map_all_eq l fun j c c' a b => (h j c c' a b).s]
  · show TT.mkss ts + 1 = TT.mkss ks + 1
    rw [mkss_map, mkss_map, map_all_eq l fun j c c' a b => (h j c c' a b).k]
  · have o2 := (show k ≠ 3 ∧ TT.no3s ks from o).2
    clear o
    induction ts generalizing ks with
    | nil => trivial
    | cons t ts ih =>
      cases ks with
      | nil => cases l
      | cons c ks =>
        obtain ⟨a, b⟩ : c.no3 ∧ TT.no3s ks := o2
        exact ⟨(h 0 c t rfl rfl).n a, ih (by simpa using l) (fun j c c' e e' => h (j + 1) c c' (by simpa using e) (by simpa using e')) b⟩
end EV
namespace L37
open PySem EV
section
local macro_rules | `(tactic| w_up) => `(tactic| simp only [w_seq, w_nil, w_rt, w_rtN, w_ex, w_as, w_if, w_par, w_rs, w_au, w_v, w_k, w_aN, w_aC, w_e2, w_tup, w_lst, w_cl, w_cl0, w_bl, w_asB, w_asT, w_tNt, w_tAn, w_tOr, w_tYs, w_eIf, w_eAn, w_eNtT, w_eOrT, w_oS, w_oN, w_eIs, w_eIs2, w_mt, w_mt0, wp_ok, wp_exc, List.getElem?_cons_zero, List.getElem?_cons_succ, List.set_cons_zero, List.set_cons_succ, Option.some.injEq, exists_eq_left', nc_int, nc_bl, nc_tup, nc_ref, nc_non, nc_str, true_and, and_true, List.length_cons, List.length_nil, List.map_cons, List.map_nil, W.bl.injEq, W.int.injEq, Bool.not_true, Bool.not_false, Bool.not_not, Bool.false_eq_true, if_true, if_false, iw_tup, iw_int, iw_bl, iw_str, iw_non, tr_bl, tr_int, tr_tup, tr_non, Bool.or_true, Bool.or_false, Bool.true_or, wipeR, qe_bl, qe_int, qe_non, isN_f, isN_t, beq_self_eq_true, bne_self_eq_false, Bool.false_bne, Bool.true_bne, o_gI, o_gI0, o_gB0, o_mulI, add_ii, o_mulW, o_addW, wd_fold, nc_wd, tr_wd, w_sl, sl_wd, cut_toN, cut_frN, qe_wd, len_wd])
variable {d : Nat} {h : Hpe} {m : Int}
theorem turned_wp {n : Nat} : ∀ (b : Nat) (t : TT) (e : Nat) (h : Hpe) (c : Int), t.bd ≤ b → b + 3 ≤ e → t.gd → t.sz ≤ 2000 → UrnAt h n c → n < h.nx → h.nx + t.sz ≤ 1000000 → c + t.sz ≤ 1000000 → h.lk = [] →
    (callE e 19 [.ref n, t.enc, .int m] h).Wp (fun w h' => ∃ t' : TT, w = t'.enc ∧ MvS m t t' ∧ UrnAt h' n (c + t.sz) ∧ Gr (· = n) t.sz h h') (fun _ _ => False) := by
  intro b
  induction b with
  | zero => ?_
  | succ b ih => ?_
  all_goals
    intro t e h c hb he g sz u hn nx hc lk
    obtain ⟨e, rfl⟩ : ∃ e', e = e' + 3 := ⟨e - 3, by omega⟩
    have p := TT.gd_p t g
    rw [callE_at, show (bodies (callE (e + 2))).get 19 = runB 5 (F__law_turned (callE (e + 2))) from rfl, run_eq]
    show (F__law_turned (callE (e + 2)) [some (.ref n), some t.enc, some (.int m), none, none] h).Wp _
    have leaf : ∀ w, t = .lf w → (F__law_turned (callE (e + 2)) [some (.ref n), some t.enc, some (.int m), none, none] h).Wp ⟨fun _ h' => ∃ t' : TT, W.non = t'.enc ∧ MvS m t t' ∧ UrnAt h' n (c + t.sz) ∧ Gr (· = n) t.sz h h', fun w h' => ∃ t' : TT, w = t'.enc ∧ MvS m t t' ∧ UrnAt h' n (c + t.sz) ∧ Gr (· = n) t.sz h h', fun _ _ => False, fun _ _ => False, fun _ _ _ => False⟩ := by
      rintro w rfl
      obtain ⟨s, r, e1, ne⟩ : LfW w := p.ok
      have eE : (TT.lf w).enc = .tup (.str s :: r) := e1
      unfold F__law_turned
      rw [eE]
      w_up
      refine wp_eq (ix_t (atI_0 _ _)) (wp_eq (ne true _) ?_)
      w_up
      exact ⟨.lf w, eE.symm, MvS.refl, urn_mono u (by omega), Gr.refl⟩
  · cases t with
    | lf w => exact leaf w rfl
    | mk k ks =>
      have := bcomb_max (TT.bls ks)
      have hb : bcomb (TT.bls ks) ≤ 0 := hb
      omega
  · cases t with
    | lf w => exact leaf w rfl
    | mk k ks =>
      clear leaf
      have eE : (TT.mk k ks).enc = .tup [.str "make", .int k, .tup (TT.encs ks)] := rfl
      have lks := TT.szs_len ks
      have szk : (TT.mk k ks).sz = TT.szs ks + 1 := rfl
      have kids : ∀ c ∈ ks, c.gd ∧ c.bd ≤ b ∧ c.sz ≤ 2000 := fun c mm => ⟨kid_gd g mm, by have := kid_bd (k := k) mm; omega, by have := kid_sz (k := k) mm; omega⟩
      have i2 : ∀ h, gIx2 (.tup [.str "make", .int k, .tup (TT.encs ks)]) (.int 2) h = .ok (.tup (TT.encs ks)) h := fun h => ix_t (w := .tup (TT.encs ks)) (atI_n (i := 2) rfl)
      have i1 : ∀ h, gIx2 (.tup [.str "make", .int k, .tup (TT.encs ks)]) (.int 1) h = .ok (.int k) h := fun h => ix_t (w := .int k) (atI_n (i := 1) rfl)
      unfold F__law_turned
      rw [eE]
      w_up
      refine wp_eq (ix_t (atI_0 _ _)) (wp_eq eq_make ⟨false, rfl, ?_⟩)
      simp only [Bool.false_eq_true, if_false]
      rw [w_un]
      w_up
      with_reducible refine w_compL (TT.encs ks) (fun q i ys h' => ∃ ts : List TT, ys = TT.encs ts ∧ ts.length = i ∧ i ≤ ks.length ∧ (∀ (j : Nat) (c c' : TT), ks[j]? = some c → ts[j]? = some c' → MvS m c c') ∧ UrnAt h' n (c + TT.szs (ks.take i)) ∧ h'.get q = some (.lst ys) ∧ q = h.nx ∧ q < h'.nx ∧ Gr (· = n) (1 + TT.szs (ks.take i)) h h') ?_ ?_ ?_ ?_
      · rw [encs_len]; omega
      · refine w_iT ?_
        w_up
        refine wp_eq (i2 _) ⟨_, rfl, ⟨by omega, [], rfl, rfl, Nat.zero_le _, (fun j c c' _ e => by simp at e), urn_mono (urn_gr u hn (Gr.new _)) (by omega), new_get _ (by omega), rfl, Nat.lt_succ_self _, Gr.new _⟩, fun _ i _ h _ => srcT_at _ _ _⟩
      · rintro q i w ys h' ew ⟨ts, rfl, rfl, hi, mv, u', gk, rfl, kn, gr⟩ _
        obtain ⟨o, eo, rfl⟩ := enc_at ew
        obtain ⟨go, bo, so⟩ := kids o (List.mem_of_getElem? eo)
        have hi2 := (List.getElem?_eq_some_iff.mp eo).1
        have tk : ks.take (ts.length + 1) = ks.take ts.length ++ [o] := by rw [List.take_add_one, eo]; rfl
        have stk : TT.szs (ks.take (ts.length + 1)) = TT.szs (ks.take ts.length) + o.sz := by rw [tk, TT.szs_app]; rfl
        have ssp := TT.szs_app (ks.take (ts.length + 1)) (ks.drop (ts.length + 1))
        rw [List.take_append_drop] at ssp
        have grl := gr.lt
        rw [w_gN]
        w_up
        refine ⟨enc_nc (TT.gd_p o go).ok, ?_⟩
        refine (ih o (e + 2) h' _ bo (by omega) go so u' (by omega) (by omega) (by omega) (gr.lk.trans lk)).mono (fun w h6 z => ?_) (fun _ _ z => z.elim)
        obtain ⟨t', rfl, mv', u6, g6⟩ := z
        have n2 : n ≠ h.nx := by omega
        have gk2 : h6.get h.nx = some (.lst (TT.encs ts)) := (g6.old _ kn (by omega)).trans gk
        have kn2 : h.nx < h6.nx := Nat.lt_of_lt_of_le kn g6.le
        have l7 := g6.lt
        refine ⟨gk2, ts ++ [t'], by rw [TT.encs_map, TT.encs_map, List.map_append]; rfl, by rw [List.length_append]; rfl, by omega, ?_, ?_, by rw [get_set (by omega), if_pos rfl], kn2, ?_⟩
        · intro j c c' e1 e2
          rw [List.getElem?_append] at e2
          split at e2
          · exact mv j c c' e1 e2
          · rename_i hj
            have : j = ts.length := by
              have := (List.getElem?_eq_some_iff.mp e2).1
              simp at this
              omega
            subst this
            rw [Nat.sub_self] at e2
            cases e2
            rw [eo] at e1
            cases e1
            exact mv'
        · obtain ⟨x, y, z, g, p, r⟩ := u6
          exact ⟨x, y, z, by rw [get_set (by omega), if_neg n2]; exact g, p, by rw [stk]; omega⟩
        · have g3 := gr.trans g6
          exact ⟨g3.le, by have := g3.lt; show h6.nx ≤ _; rw [stk]; omega, fun j hj m => by rw [get_set (by omega), if_neg (by omega)]; exact g3.old j hj m, g3.lk⟩
      · rintro q ys h' ⟨ts, rfl, lt, hi, mv, u', gk, rfl, kn, gr⟩
        rw [encs_len] at lt u' gr
        rw [List.take_length] at u' gr
        refine w_btup (rdL_of gk) ?_
        have lk' := gr.lk.trans lk
        rw [unl_nil lk lk']
        have s := mvS_kids (k := k) lt mv
        have fin : ∃ t' : TT, W.tup [.str "make", .int k, .tup (TT.encs ts)] = t'.enc ∧ MvS m (.mk k ks) t' ∧ UrnAt h' n (c + (TT.mk k ks).sz) ∧ Gr (· = n) (TT.mk k ks).sz h h' := ⟨.mk k ts, rfl, s, urn_mono u' (by omega), gr.mono (by omega) fun _ _ z => z⟩
        have gts : (TT.mk k ts).gd := gd_mv g s.l
        w_up
        have plain : (gIx2 (W.tup [W.str "make", W.int k, W.tup (TT.encs ks)]) (W.int 1) h').Wp (fun w h1 => line (0 + 1 + 1 + 1) = true ∧ ∃ t' : TT, W.tup [.str "make", w, .tup (TT.encs ts)] = t'.enc ∧ MvS m (.mk k ks) t' ∧ UrnAt h1 n (c + (TT.mk k ks).sz) ∧ Gr (· = n) (TT.mk k ks).sz h h1) (fun _ _ => False) := wp_eq (i1 _) ⟨by decide, fin⟩
        refine wp_eq (i1 _) ?_
        rw [qe_int]
        refine ⟨k == m, by rw [Bool.false_bne], ?_⟩
        cases c1 : k == m with
        | false =>
          simp only [Bool.false_eq_true, if_false]
          exact plain
        | true =>
          have km := beq_iff_eq.mp c1
          subst km
          simp only [if_true]
          rw [len_t, encs_len, wp_ok, qe_int]
          refine ⟨((ts.length : Nat) : Int) == 2, by rw [Bool.false_bne], ?_⟩
          cases c2 : ((ts.length : Nat) : Int) == 2 with
          | false =>
            simp only [Bool.false_eq_true, if_false]
            exact plain
          | true =>
            simp only [if_true]
            have l2 : ts.length = 2 := by have := beq_iff_eq.mp c2; omega
            match ts, l2, s, gts, fin, plain with
            | [x, y], _, s, gts, fin, plain =>
              have gx : x.gd := kid_gd gts (List.mem_cons_self ..)
              have gy : y.gd := kid_gd gts (List.mem_cons_of_mem _ (List.mem_cons_self ..))
              refine wp_eq (ix_t (w := y.enc) (atI_n (i := 1) rfl)) (wp_eq (two_call (d := e + 1) (m := k) gy) ⟨y.two k, rfl, ?_⟩)
              cases c3 : y.two k with
              | false =>
                simp only [Bool.false_eq_true, if_false]
                exact plain
              | true =>
                simp only [if_true]
                have grl := gr.lt
                refine w_take (et (e + 1)) u' (by omega) (by decide) (by decide) (by omega) fun x2 h2 x0 x1 u2 g2 => ?_
                have gA := gr.trans g2
                rw [qe_int]
                refine ⟨x2 == 0, by rw [Bool.false_bne], ?_⟩
                cases x2 == 0 with
                | false =>
                  simp only [Bool.false_eq_true, if_false]
                  exact wp_eq (i1 _) ⟨by decide, .mk k [x, y], rfl, s, urn_mono u2 (by omega), gA.mono (by omega) fun _ _ z => z⟩
                | true =>
                  simp only [if_true]
                  obtain ⟨p, q, rfl⟩ := TT.two_iff c3
                  have j1 : gIx2 (.tup [x.enc, (TT.mk k [p, q]).enc]) (.int 1) h2 = .ok (.tup [.str "make", .int k, .tup [p.enc, q.enc]]) h2 := ix_t (atI_n (i := 1) rfl)
                  have j2 : gIx2 (.tup [.str "make", .int k, .tup [p.enc, q.enc]]) (.int 2) h2 = .ok (.tup [p.enc, q.enc]) h2 := ix_t (atI_n (i := 2) rfl)
                  refine wp_eq (ix_t (w := x.enc) (atI_0 _ _)) (wp_eq j1 (wp_eq j2 (wp_eq (ix_t (w := p.enc) (atI_0 _ _)) ⟨by decide, by decide, wp_eq j1 (wp_eq j2 (wp_eq (ix_t (w := q.enc) (atI_n (i := 1) rfl)) ⟨by decide, by decide, ?_⟩))⟩)))
                  exact ⟨.mk k [.mk k [x, p], q], rfl, s.trans mvS_back, urn_mono u2 (by omega), gA.mono (by omega) fun _ _ z => z⟩
end
end L37
namespace L37
open PySem EV
structure BtS (t t' : TT) : Prop where
  n : t'.lvs.length = t.lvs.length
  d : t'.lvs ≠ t.lvs
  g : t'.gd
  b : t'.bd = t.bd
  s : t'.sz = t.sz
theorem lvss_app : ∀ a b : List TT, TT.lvss (a ++ b) = TT.lvss a ++ TT.lvss b
  | [], b => rfl
  | k :: a, b => by
    show k.lvs ++ TT.lvss (a ++ b) = (k.lvs ++ TT.lvss a) ++ TT.lvss b
    rw [lvss_app a b, List.append_assoc]
theorem bt_set {k : Int} {ks : List TT} {i : Nat} {c c' : TT} (e : ks[i]? = some c) (g : (TT.mk k ks).gd) (b : BtS c c') : BtS (.mk k ks) (.mk k (ks.set i c')) := by
  have hi := (List.getElem?_eq_some_iff.mp e).1
  have ec : ks[i] = c := (List.getElem?_eq_some_iff.mp e).2
  have e1 : ks.set i c' = ks.take i ++ c' :: ks.drop (i + 1) := by rw [List.set_eq_take_append_cons_drop, if_pos hi]
  have e2 : ks = ks.take i ++ c :: ks.drop (i + 1) := by
    have z := (List.take_append_drop i ks).symm
    rw [List.drop_eq_getElem_cons hi, ec] at z
    exact z
  refine ⟨?_, ?_, ?_, ?_, ?_⟩
  · show (TT.lvss (ks.set i c')).length = (TT.lvss ks).length
    rw [e1]
    conv => rhs; rw [e2]
    rw [lvss_app, lvss_app]
    show (_ ++ (c'.lvs ++ _)).length = (_ ++ (c.lvs ++ _)).length
    simp only [List.length_append]
    rw [b.n]
  · intro z
    have z : TT.lvss (ks.set i c') = TT.lvss ks := z
    rw [e1] at z
    conv at z => rhs; rw [e2]
    rw [lvss_app, lvss_app] at z
    have z : TT.lvss (ks.take i) ++ (c'.lvs ++ TT.lvss (ks.drop (i + 1))) = TT.lvss (ks.take i) ++ (c.lvs ++ TT.lvss (ks.drop (i + 1))) := z
    exact b.d (List.append_cancel_right (List.append_cancel_left z))
  · intro w hw
    obtain ⟨x, m, hx⟩ := lvss_mem (show w ∈ TT.lvss (ks.set i c') from hw)
    rcases List.mem_or_eq_of_mem_set m with m | rfl
    · exact kid_gd g m w hx
    · exact b.g w hx
  · show bcomb (TT.bls (ks.set i c')) = bcomb (TT.bls ks)
    rw [bls_map, bls_map, map_set_eq e b.b]
  · show TT.szs (ks.set i c') + 1 = TT.szs ks + 1
    rw [szs_map, szs_map, map_set_eq e b.s]
theorem str_eq {s t : Str} (h1 : SeqAt.shaped (.str s) = true) (h2 : SeqAt.shaped (.str t) = true) (n : Bool) (h : Hpe) : gEq n (.str s) (.str t) h = .ok (.bl (n != PyData.eqv (.str s) (.str t))) h := by
  unfold gEq
  show (bif SeqAt.shaped (.str s) && SeqAt.shaped (.str t) then Res.ok (W.bl (n != PyData.eqv (.str s) (.str t))) h else .no) = _
  rw [h1, h2]
  rfl
section
local macro_rules | `(tactic| w_up) => `(tactic| simp only [w_seq, w_nil, w_rt, w_rtN, w_ex, w_as, w_if, w_par, w_rs, w_au, w_v, w_k, w_aN, w_aC, w_e2, w_tup, w_lst, w_cl, w_cl0, w_bl, w_asB, w_asT, w_tNt, w_tAn, w_tOr, w_tYs, w_eIf, w_eAn, w_eNtT, w_eOrT, w_oS, w_oN, w_eIs, w_eIs2, w_mt, w_mt0, wp_ok, wp_exc, List.getElem?_cons_zero, List.getElem?_cons_succ, List.set_cons_zero, List.set_cons_succ, Option.some.injEq, exists_eq_left', nc_int, nc_bl, nc_tup, nc_ref, nc_non, nc_str, true_and, and_true, List.length_cons, List.length_nil, List.map_cons, List.map_nil, W.bl.injEq, W.int.injEq, Bool.not_true, Bool.not_false, Bool.not_not, Bool.false_eq_true, if_true, if_false, iw_tup, iw_int, iw_bl, iw_str, iw_non, tr_bl, tr_int, tr_tup, tr_non, Bool.or_true, Bool.or_false, Bool.true_or, wipeR, qe_bl, qe_int, qe_non, isN_f, isN_t, beq_self_eq_true, bne_self_eq_false, Bool.false_bne, Bool.true_bne, o_gI, o_gI0, o_gB0, o_mulI, add_ii, o_mulW, o_addW, wd_fold, nc_wd, tr_wd, w_sl, sl_wd, cut_toN, cut_frN, qe_wd, len_wd])
variable {d : Nat} {h : Hpe} {m : Int}
theorem bent_leaf {w : W} (l : LfS w) : ∃ s r, w = .tup (.str s :: r) ∧ LfW w ∧ ∃ b : Bool, (∀ h, gEq true (.str s) (.str "thing") h = .ok (.bl b) h) ∧ BtS (.lf w) (.lf (if b = true then lAt [0, 0] else lThing 7)) := by
  have one : ∀ {v : W}, LfP v → v ≠ w → BtS (.lf w) (.lf v) := fun p ne => ⟨rfl, fun z => ne (by injection z), fun u hu => by rcases List.mem_singleton.mp (show u ∈ [_] from hu) with rfl; exact p, rfl, rfl⟩
  have st : SeqAt.shaped (.str "thing") = true := by decide +kernel
  have sa : SeqAt.shaped (.str "at") = true := by decide +kernel
  have sc : SeqAt.shaped (.str "call") = true := by decide +kernel
  have p := l.p.ok
  rcases l with ⟨i, i0, i3, rfl⟩ | rfl | rfl | rfl
  · refine ⟨"thing", _, rfl, p, false, fun h => by rw [str_eq st st, show PyData.eqv (.str "thing") (.str "thing") = true by decide +kernel]; rfl, one (lfp_thing 7) fun z => ?_⟩
    injection z with z
    injection z with _ z
    injection z with z _
    injection z with z
    omega
  · refine ⟨"at", _, rfl, p, true, fun h => by rw [str_eq sa st, show PyData.eqv (.str "at") (.str "thing") = false by decide +kernel]; rfl, one (lfp_at2 0 0) fun z => ?_⟩
    injection z with z
    injection z with _ z
    injection z with z _
    injection z with z
    cases z
  · refine ⟨"at", _, rfl, p, true, fun h => by rw [str_eq sa st, show PyData.eqv (.str "at") (.str "thing") = false by decide +kernel]; rfl, one (lfp_at2 0 0) fun z => ?_⟩
    injection z with z
    injection z with _ z
    injection z with z _
    injection z with z
    injection z with z _
    cases z
  · refine ⟨"call", _, rfl, p, true, fun h => by rw [str_eq sc st, show PyData.eqv (.str "call") (.str "thing") = false by decide +kernel]; rfl, one (lfp_at2 0 0) fun z => ?_⟩
    injection z with z
    injection z with _ z
    injection z with z _
    cases z
theorem bent_wp {n : Nat} : ∀ (dp : Nat) (t : TT) (e : Nat) (h : Hpe) (c : Int), Tr dp t → dp ≤ 4 → dp + 3 ≤ e → UrnAt h n c → n < h.nx → h.nx ≤ 2000000 → c + dp ≤ 1000000 → h.lk = [] →
    (callE e 20 [.ref n, t.enc] h).Wp (fun w h' => ∃ t' : TT, w = t'.enc ∧ BtS t t' ∧ UrnAt h' n (c + dp) ∧ Gr (· = n) 0 h h') (fun _ _ => False) := by
  intro dp
  induction dp with
  | zero => ?_
  | succ dp ih => ?_
  all_goals
    intro t e h c ht hd he u hn nx hc lk
    obtain ⟨e, rfl⟩ : ∃ e', e = e' + 3 := ⟨e - 3, by omega⟩
    rw [callE_at, show (bodies (callE (e + 2))).get 20 = runB 3 (F__law_bent (callE (e + 2))) from rfl, run_eq]
    show (F__law_bent (callE (e + 2)) [some (.ref n), some t.enc, none] h).Wp _
    have leaf : ∀ (c' : Int), c ≤ c' → ∀ w, LfS w → t = .lf w → (F__law_bent (callE (e + 2)) [some (.ref n), some t.enc, none] h).Wp ⟨fun _ h' => ∃ t' : TT, W.non = t'.enc ∧ BtS t t' ∧ UrnAt h' n c' ∧ Gr (· = n) 0 h h', fun w h' => ∃ t' : TT, w = t'.enc ∧ BtS t t' ∧ UrnAt h' n c' ∧ Gr (· = n) 0 h h', fun _ _ => False, fun _ _ => False, fun _ _ _ => False⟩ := by
      rintro c' cc w lw rfl
      obtain ⟨s, r, e1, lW, b, eb, bt⟩ := bent_leaf lw
      obtain ⟨s', r', e1', ne⟩ := lW
      rw [e1] at e1'
      cases e1'
      have eE : (TT.lf w).enc = .tup (.str s :: r) := e1
      unfold F__law_bent
      rw [eE]
      w_up
      refine wp_eq (ix_t (atI_0 _ _)) (wp_eq (ne true _) ⟨true, rfl, ?_⟩)
      simp only [if_true]
      refine wp_eq (ix_t (atI_0 _ _)) (wp_eq (eb _) ⟨b, rfl, ?_⟩)
      cases b with
      | true =>
        simp only [if_true] at bt ⊢
        exact ⟨by decide, by decide, .lf (lAt [0, 0]), rfl, bt, urn_mono u cc, Gr.refl⟩
      | false =>
        simp only [Bool.false_eq_true, if_false] at bt ⊢
        exact ⟨by decide, .lf (lThing 7), rfl, bt, urn_mono u cc, Gr.refl⟩
  · obtain ⟨w, e1, lw⟩ := ht
    exact leaf _ (by omega) w lw e1
  · rcases ht with ⟨w, e1, lw⟩ | ⟨k, ks, rfl, hk, l1, l3, hks⟩
    · exact leaf _ (by omega) w lw e1
    · clear leaf
      have g : (TT.mk k ks).gd := (tr4 (d := dp + 1) hd (.inr ⟨k, ks, rfl, hk, l1, l3, hks⟩)).gd
      have eE : (TT.mk k ks).enc = .tup [.str "make", .int k, .tup (TT.encs ks)] := rfl
      have i2 : ∀ h, gIx2 (.tup [.str "make", .int k, .tup (TT.encs ks)]) (.int 2) h = .ok (.tup (TT.encs ks)) h := fun h => ix_t (w := .tup (TT.encs ks)) (atI_n (i := 2) rfl)
      unfold F__law_bent
      rw [eE]
      w_up
      refine wp_eq (ix_t (atI_0 _ _)) (wp_eq eq_make ⟨false, rfl, ?_⟩)
      simp only [Bool.false_eq_true, if_false]
      refine wp_eq (i2 _) ?_
      rw [len_t, encs_len]
      w_up
      refine w_take (et (e + 1)) u (by omega) (by omega) (by omega) (by omega) fun x h1 x0 x1 u1 g1 => ?_
      obtain ⟨i, rfl⟩ : ∃ i : Nat, x = i := ⟨x.toNat, by omega⟩
      have hi : i < ks.length := by omega
      have ec : ks[i]? = some ks[i] := List.getElem?_eq_getElem hi
      generalize ks[i] = o at ec
      have ei : (TT.encs ks)[i]? = some o.enc := by rw [TT.encs_map, List.getElem?_map, ec]; rfl
      have s2 : ∀ h, slW (.tup [.str "make", .int k, .tup (TT.encs ks)]) none (some 2) h = .ok (.tup [.str "make", .int k]) h := fun _ => rfl
      have s3 : ∀ h, slW (.tup (TT.encs ks)) none (some (i : Int)) h = .ok (.tup ((TT.encs ks).take i)) h := fun h => by
        show Res.ok (W.tup (cutW _ _ _)) h = _
        rw [cut_t]
      have s4 : ∀ h, slW (.tup (TT.encs ks)) (some ((i + 1 : Nat) : Int)) none h = .ok (.tup ((TT.encs ks).drop (i + 1))) h := fun h => by
        show Res.ok (W.tup (cutW _ _ _)) h = _
        rw [cut_fr]
      refine wp_eq (s2 _) (wp_eq (i2 _) ⟨rfl, _, rfl, wp_eq (s3 _) (wp_eq (i2 _) ⟨rfl, wp_eq (ix_t (w := o.enc) (atI_n ei)) ?_⟩)⟩)
      have n1 : n < h1.nx := Nat.lt_of_lt_of_le hn g1.le
      have gl := g1.lt
      refine (ih o (e + 2) h1 _ (hks o (List.mem_of_getElem? ec)) (by omega) (by omega) u1 n1 (by omega) (by omega) (g1.lk.trans lk)).mono (fun w h2 z => ?_) (fun _ _ z => z.elim)
      obtain ⟨t', rfl, bt, u2, g2⟩ := z
      refine ⟨by decide, ?_⟩
      rw [add_tt]
      refine ⟨by rw [List.length_take, encs_len]; show _ + 1 ≤ _; omega, ?_⟩
      refine wp_eq (i2 _) ⟨rfl, ?_⟩
      rw [add_ii]
      refine ⟨_, rfl, ?_⟩
      rw [show (i : Int) + 1 = ((i + 1 : Nat) : Int) by omega]
      refine wp_eq (s4 _) ?_
      rw [add_tt]
      refine ⟨by rw [List.length_append, List.length_take, List.length_drop, encs_len]; show _ + 1 + _ ≤ _; omega, rfl, ?_⟩
      rw [set_enc hi, add_tt]
      exact ⟨Nat.le_of_ble_eq_true rfl, .mk k (ks.set i t'), rfl, bt_set ec g bt, urn_mono u2 (by omega), (g1.trans g2).mono (by omega) fun _ _ z => z⟩
end
end L37
namespace EV
open PySem
mutual
theorem q_nr : ∀ w : W, qdat w = true → noRef w = true
  | .non, _ => rfl
  | .int _, _ => rfl
  | .str _, _ => rfl
  | .bl _, q => by cases q
  | .tup ws, q => by
    rw [noRef_t]
    exact qs_nr ws q
  | .ref _, q => by cases q
  | .df _, q => by cases q
  | .clo _ _, q => by cases q
theorem qs_nr : ∀ ws : List W, qdats ws = true → noRefs ws = true
  | [], _ => rfl
  | w :: ws, q => by
    have q : (qdat w && qdats ws) = true := q
    obtain ⟨a, b⟩ := (Bool.and_eq_true _ _).mp q
    rw [noRefs_c, q_nr w a, qs_nr ws b]
    rfl
end
theorem qdats_at : ∀ {ws : List W} {i : Nat} {w : W}, qdats ws = true → ws[i]? = some w → qdat w = true
  | [], _, _, _, e => by simp at e
  | w :: ws, 0, _, q, e => by
    simp at e
    subst e
    exact ((Bool.and_eq_true _ _).mp (show (qdat w && qdats ws) = true from q)).1
  | w :: ws, i + 1, _, q, e => qdats_at (ws := ws) (i := i) ((Bool.and_eq_true _ _).mp (show (qdat w && qdats ws) = true from q)).2 (by simpa using e)
theorem tns_at : ∀ {ws : List W} {i : Nat} {w : W}, ws[i]? = some w → tn w ≤ tns ws
  | [], _, _, e => by simp at e
  | v :: ws, 0, w, e => by
    simp at e
    subst e
    show tn v ≤ tn v + tns ws
    omega
  | v :: ws, i + 1, w, e => by
    have := tns_at (ws := ws) (i := i) (w := w) (by simpa using e)
    show tn w ≤ tn v + tns ws
    omega
section
local macro_rules | `(tactic| w_up) => `(tactic| simp only [w_seq, w_nil, w_rt, w_rtN, w_ex, w_as, w_if, w_par, w_rs, w_au, w_v, w_k, w_aN, w_aC, w_e2, w_tup, w_lst, w_cl, w_cl0, w_bl, w_asB, w_asT, w_tNt, w_tAn, w_tOr, w_tYs, w_eIf, w_eAn, w_eNtT, w_eOrT, w_oS, w_oN, w_eIs, w_eIs2, w_mt, w_mt0, wp_ok, wp_exc, List.getElem?_cons_zero, List.getElem?_cons_succ, List.set_cons_zero, List.set_cons_succ, Option.some.injEq, exists_eq_left', nc_int, nc_bl, nc_tup, nc_ref, nc_non, nc_str, true_and, and_true, List.length_cons, List.length_nil, List.map_cons, List.map_nil, W.bl.injEq, W.int.injEq, Bool.not_true, Bool.not_false, Bool.not_not, Bool.false_eq_true, if_true, if_false, iw_tup, iw_int, iw_bl, iw_str, iw_non, tr_bl, tr_int, tr_tup, tr_non, Bool.or_true, Bool.or_false, Bool.true_or, wipeR, qe_bl, qe_int, qe_non, isN_f, isN_t, beq_self_eq_true, bne_self_eq_false, Bool.false_bne, Bool.true_bne, o_gI, o_gI0, o_gB0, o_mulI, add_ii, o_mulW, o_addW, wd_fold, nc_wd, tr_wd, w_sl, sl_wd, cut_toN, cut_frN, qe_wd, len_wd])
theorem same_q {C : Nat → List W → Hpe → Res W} (hC : ∀ d ws h, C (d + 1) ws h = frm (runB 4 (uSame (C d))) ws h) : ∀ (d : Nat) (w : W) (h : Hpe) (d' : Nat), dpW w < d → d ≤ d' → qdat w = true → tn w ≤ 50000 → C d' [w, w] h = .ok (.bl true) h := by
  intro d
  induction d with
  | zero => intro w h d' l; exact absurd l (Nat.not_lt_zero _)
  | succ d ih =>
    intro w h d' dl hd q tl
    obtain ⟨e, rfl⟩ : ∃ e, d' = e + 1 := ⟨d' - 1, by omega⟩
    have nr := q_nr w q
    rw [hC]
    refine frm_is (by rw [noRefs_c, noRefs_c, nr]; rfl) rfl ?_ h
    rw [run_eq]
    show (uSame (C e) [some w, some w, none, none] Hpe.nil).Wp _
    unfold uSame
    cases w with
    | non => w_up
    | int i => w_up
    | str s =>
      have ee : gEq false (.str s) (.str s) Hpe.nil = .ok (.bl true) Hpe.nil := by
        have z := qe_64 (n := false) (h := Hpe.nil) q q (by show 0 ≤ 64; omega) (by show 0 ≤ 64; omega)
        rw [z, sameW_iff.mpr rfl]
        rfl
      w_up
      refine wp_eq ee ⟨true, rfl, ?_⟩
      w_up
    | bl b => cases q
    | ref n => cases q
    | df n => cases q
    | clo a b => cases q
    | tup ws =>
      have tl : tns ws + 1 ≤ 50000 := tl
      have lw := tns_len ws
      have dl : dpWs ws + 1 < d + 1 := dl
      w_up
      simp only [len_t, wp_ok, qe_int, beq_self_eq_true, Bool.bne_true, Bool.not_false, W.bl.injEq, exists_eq_left', if_true, Bool.false_bne]
      with_reducible refine w_compL (zipW ws ws) (fun k i ys h' => k = 0 ∧ k < h'.nx ∧ h'.nx ≤ 1 ∧ i ≤ ws.length ∧ h'.get k = some (.lst ys) ∧ ys = List.replicate i (.bl true)) (by rw [zipW_len rfl]; omega) ?_ ?_ ?_
      · show (Res.ok (srcZ (.tup ws) (.tup ws)) Hpe.nil).Wp _ _
        rw [wp_ok]
        refine ⟨⟨by decide, rfl, Nat.lt_succ_self _, Nat.le_refl _, Nat.zero_le _, new_get _ (by decide), rfl⟩, ?_⟩
        rintro k i ys h' _
        exact srcZ_at rfl rfl i
      · rintro k i p ys h' ep ⟨rfl, kn, nx, li, gk, rfl⟩ _
        rw [zipW_at] at ep
        cases e1 : ws[i]? with
        | none => rw [e1] at ep; cases ep
        | some w =>
          rw [e1] at ep
          cases ep
          have hi := (List.getElem?_eq_some_iff.mp e1).1
          have qw := qdats_at q e1
          have dw := dpWs_at e1
          have tw := tns_at e1
          have nc : noClo w = true := by cases w <;> first | rfl | cases qw
          rw [w_gT2]
          w_up
          refine ⟨nc, nc, wp_eq (ih w h' e (by omega) (by omega) qw (by omega)) ?_⟩
          exact ⟨gk, kn, nx, by omega, by rw [get_set (by omega), if_pos rfl], by rw [List.replicate_succ']⟩
      · rintro k ys h' ⟨rfl, kn, nx, li, gk, rfl⟩
        refine w_all gk (bools_rep true _) ?_
        rw [zipW_len rfl]
        congr 1
        simp
end
end EV
namespace L37
open PySem EV
theorem b11' (d : Nat) (ws : List W) (h : Hpe) : callE (d + 1) 11 ws h = frm (runB 4 (uSame (callE d 11))) ws h := by rw [callE_at, b11]
theorem hand (h : Hpe) : callE 113 22 [] h = .ok (.bl true) h := by
  rw [callE_at, show (bodies (callE 112)).get 22 = frm (runB 10 (F__law_by_hand_right (callE 112))) from rfl]
  exact frm_kn rfl rfl (by kernel_rfl) h
end L37
namespace EV
open PySem
section
local macro_rules | `(tactic| w_up) => `(tactic| simp only [w_seq, w_nil, w_rt, w_rtN, w_ex, w_as, w_if, w_par, w_rs, w_au, w_v, w_k, w_aN, w_aC, w_e2, w_tup, w_lst, w_cl, w_cl0, w_bl, w_asB, w_asT, w_tNt, w_tAn, w_tOr, w_tYs, w_eIf, w_eAn, w_eNtT, w_eOrT, w_oS, w_oN, w_eIs, w_eIs2, w_mt, w_mt0, wp_ok, wp_exc, List.getElem?_cons_zero, List.getElem?_cons_succ, List.set_cons_zero, List.set_cons_succ, Option.some.injEq, exists_eq_left', nc_int, nc_bl, nc_tup, nc_ref, nc_non, nc_str, true_and, and_true, List.length_cons, List.length_nil, List.map_cons, List.map_nil, W.bl.injEq, W.int.injEq, Bool.not_true, Bool.not_false, Bool.not_not, Bool.false_eq_true, if_true, if_false, iw_tup, iw_int, iw_bl, iw_str, iw_non, tr_bl, tr_int, tr_tup, tr_non, Bool.or_true, Bool.or_false, Bool.true_or, wipeR, qe_bl, qe_int, qe_non, isN_f, isN_t, beq_self_eq_true, bne_self_eq_false, Bool.false_bne, Bool.true_bne, o_gI, o_gI0, o_gB0, o_mulI, add_ii, o_mulW, o_addW, wd_fold, nc_wd, tr_wd, w_sl, sl_wd, cut_toN, cut_frN, qe_wd, len_wd])
theorem same_bl {C : Nat → List W → Hpe → Res W} (hC : ∀ d ws h, C (d + 1) ws h = frm (runB 4 (uSame (C d))) ws h) (d : Nat) (b : Bool) (h : Hpe) : C (d + 1) [.bl b, .bl b] h = .ok (.bl true) h := by
  rw [hC]
  refine frm_is rfl rfl ?_ h
  rw [run_eq]
  show (uSame (C d) [some (.bl b), some (.bl b), none, none] Hpe.nil).Wp _
  unfold uSame
  w_up
theorem same_refs {C : Nat → List W → Hpe → Res W} (hC : ∀ d ws h, C (d + 1) ws h = frm (runB 4 (uSame (C d))) ws h) {a b e : Nat} {ws : List W} {h : Hpe} (ga : h.get a = some (.lst ws)) (gb : h.get b = some (.lst ws)) (ha : a < h.nx) (hb : b < h.nx) (lw : ws.length ≤ 1000) (nx : h.nx ≤ 100000000) (el : ∀ w ∈ ws, noClo w = true ∧ ∀ h, C e [w, w] h = .ok (.bl true) h) :
    ∃ h', C (e + 1) [.ref a, .ref b] h = .ok (.bl true) h' ∧ Gr noM 1 h h' := by
  rw [hC]
  unfold frm
  rw [show noRefs [W.ref a, W.ref b] = false from rfl]
  suffices z : (runB 4 (uSame (C e)) [.ref a, .ref b] h).Wp (fun u h' => u = .bl true ∧ Gr noM 1 h h') (fun _ _ => False) by
    obtain ⟨u, h', e, rfl, g⟩ := wp_ex z
    exact ⟨h', e, g⟩
  rw [run_eq]
  show (uSame (C e) [some (.ref a), some (.ref b), none, none] h).Wp _
  unfold uSame
  simp only [w_seq, w_if, w_asT, w_eIs2, w_v, List.getElem?_cons_zero, List.getElem?_cons_succ, Option.some.injEq, exists_eq_left', nc_ref, true_and, iw_lst ga, iw_lst gb]
  w_up
  simp only [iw_lst ga, iw_lst gb, Option.some.injEq, exists_eq_left', beq_self_eq_true, Bool.not_true, Bool.false_eq_true, if_false, Bool.not_false, len_l ga, len_l gb, wp_ok, qe_int, W.bl.injEq, if_true, Bool.false_bne, bne_self_eq_false]
  have srcA : ∀ h', Gr noM 1 h h' → rdS (.ref a) h' = some ws := fun h' gr => rdL_of ((gr.old a ha fun z => z).trans ga)
  have srcB : ∀ h', Gr noM 1 h h' → rdS (.ref b) h' = some ws := fun h' gr => rdL_of ((gr.old b hb fun z => z).trans gb)
  with_reducible refine w_compL (zipW ws ws) (fun k i ys h' => k = h.nx ∧ k < h'.nx ∧ i ≤ ws.length ∧ h'.get k = some (.lst ys) ∧ ys = List.replicate i (.bl true) ∧ Gr noM 1 h h') (by rw [zipW_len rfl]; omega) ?_ ?_ ?_
  · have ec : (iOr (ltR (aC (eV 0) (aC (eV 1) aN))) (iZMf (aC (eV 0) (aC (eV 1) aN))) (iZ (aC (eV 0) (aC (eV 1) aN)))) [some (.ref a), some (.ref b), none, none] h = .ok (srcZ (.ref a) (.ref b)) h := by
      show (match rdL h a, rdL h b with | some _, some _ => Res.ok (srcZ (.ref a) (.ref b)) h | _, _ => .no) = _
      rw [rdL_of ga, rdL_of gb]
    rw [ec, wp_ok]
    refine ⟨⟨by omega, rfl, Nat.lt_succ_self _, Nat.zero_le _, new_get _ (by omega), rfl, Gr.new _⟩, ?_⟩
    rintro k i ys h' ⟨_, _, _, _, _, gr⟩
    exact srcZ_at (srcA h' gr) (srcB h' gr) i
  · rintro k i p ys h' ep ⟨rfl, kn, li, gk, rfl, gr⟩ _
    rw [zipW_at] at ep
    cases e1 : ws[i]? with
    | none => rw [e1] at ep; cases ep
    | some w =>
      rw [e1] at ep
      cases ep
      have hi := (List.getElem?_eq_some_iff.mp e1).1
      obtain ⟨nc, ce⟩ := el w (List.mem_of_getElem? e1)
      have gl := gr.lt
      rw [w_gT2]
      w_up
      refine ⟨nc, nc, wp_eq (ce h') ?_⟩
      exact ⟨gk, kn, by omega, by rw [get_set (by omega), if_pos rfl], by rw [List.replicate_succ'], ⟨gr.le, gr.lt, fun j hj mm => by rw [get_set (by omega), if_neg (by omega)]; exact gr.old j hj mm, gr.lk⟩⟩
  · rintro k ys h' ⟨rfl, kn, li, gk, rfl, gr⟩
    refine w_all gk (bools_rep true _) ⟨?_, gr⟩
    rw [zipW_len rfl]
    congr 1
    simp
end
end EV
namespace L37
open PySem EV
def A_S0 (T : Tab) : FS := (sPar 1 2 (aC (eBl bInt (aC (e2 (gB0 fun i j => decide (j < i)) (eCl 2 (T 9) (aC (eV 0) (aC (eK (.int 4)) aN))) (eK (.int 0))) aN)) (aC (e2 gAdd (eK (.int 1)) (eCl 2 (T 9) (aC (eV 0) (aC (eK (.int 2)) aN)))) aN)))
def A_S1 (T : Tab) : FS := (sAs (eCl 3 (T 14) (aC (eV 0) (aC (e2 gAdd (eK (.int 2)) (e2 gMul (eK (.int 2)) (eV 1))) (aC (eV 1) aN)))) (gN 3))
def A_S2 (T : Tab) : FS := (sAs (eCl 3 (T 18) (aC (eV 0) (aC (eV 3) (aC (eV 2) aN)))) (gN 4))
def A_S3 (T : Tab) : FS := (sAs (eCl 2 (T 5) (aC (eV 3) (aC (eV 2) aN))) (gN 5))
def A_S4 (T : Tab) : FS := (sIf (tOr' (asB (e2 (gEq true) (eCl 2 (T 15) (aC (eV 4) (aC (eV 2) aN))) (eLst aN))) (tNt (asT (eCl 2 (T 11) (aC (eLst (aC (eV 5) (aC (eCl 2 (T 5) (aC (eCl 1 (T 12) (aC (eV 3) aN)) (aC (eV 2) aN))) (aC (eCl 2 (T 5) (aC (eV 4) (aC (eV 2) aN))) aN)))) (aC (eLst (aC (eV 4) (aC (eV 4) (aC (eV 4) aN)))) aN)))))) (sSeq (sRt (eK (.bl false))) sNil) sNil)
def A_S5 (T : Tab) : FS := (sPar 6 7 (aC (eCl 3 (T 19) (aC (eV 0) (aC (eV 3) (aC (eV 2) aN)))) (aC (eCl 2 (T 20) (aC (eV 0) (aC (eV 3) aN))) aN)))
def A_S6 (T : Tab) : FS := (sAs (eLst (aC (eCl 3 (T 7) (aC (eV 3) (aC (eV 6) (aC (eV 2) aN)))) (aC (eCl 3 (T 7) (aC (eCl 1 (T 12) (aC (eV 6) aN)) (aC (eV 3) (aC (eV 2) aN)))) (aC (eCl 3 (T 7) (aC (eV 3) (aC (eV 7) (aC (eV 2) aN)))) (aC (eCl 3 (T 7) (aC (eV 3) (aC (eV 6) (aC (eK (.int 3)) aN)))) aN))))) (gN 8))
def A_S7 (T : Tab) : FS := (sIf (tNt (asT (eCl 2 (T 11) (aC (eV 8) (aC (eLst (aC (eK (.bl true)) (aC (eK (.bl true)) (aC (eK (.bl false)) (aC (e2 (gEq false) (eV 3) (eV 6)) aN))))) aN))))) (sSeq (sRt (eK (.bl false))) sNil) sNil)
def A_S8 (T : Tab) : FS := (sRt (eOrT (e2 (gEq false) (eV 1) (eK (.int 0))) (e2 (gIsB false) (eCl 3 (T 7) (aC (eTup (aC (eK (.str "make")) (aC (eV 2) (aC (eTup (aC (eV 3) (aC (eV 7) aN))) aN)))) (aC (eTup (aC (eK (.str "make")) (aC (eV 2) (aC (eTup (aC (eV 7) (aC (eV 3) aN))) aN)))) (aC (eV 2) aN)))) (eK (.bl false)))))
def A_R9 (_T : Tab) : FS := sNil
def A_R8 (T : Tab) : FS := sSeq (A_S8 T) (A_R9 T)
def A_R7 (T : Tab) : FS := sSeq (A_S7 T) (A_R8 T)
def A_R6 (T : Tab) : FS := sSeq (A_S6 T) (A_R7 T)
def A_R5 (T : Tab) : FS := sSeq (A_S5 T) (A_R6 T)
def A_R4 (T : Tab) : FS := sSeq (A_S4 T) (A_R5 T)
def A_R3 (T : Tab) : FS := sSeq (A_S3 T) (A_R4 T)
def A_R2 (T : Tab) : FS := sSeq (A_S2 T) (A_R3 T)
def A_R1 (T : Tab) : FS := sSeq (A_S1 T) (A_R2 T)
def A_R0 (T : Tab) : FS := sSeq (A_S0 T) (A_R1 T)
theorem right_eq (T : Tab) : F__law_right T = A_R0 T := rfl
structure St (h0 : Hpe) (n K : Nat) (c : Int) (h : Hpe) : Prop where
  u : UrnAt h n c
  n0 : n < h0.nx
  x0 : h0.nx ≤ 1000
  l0 : h0.lk = []
  g : Gr (· = n) K h0 h
section
local macro_rules | `(tactic| w_up) => `(tactic| simp only [w_seq, w_nil, w_rt, w_rtN, w_ex, w_as, w_if, w_par, w_rs, w_au, w_v, w_k, w_aN, w_aC, w_e2, w_tup, w_lst, w_cl, w_cl0, w_bl, w_asB, w_asT, w_tNt, w_tAn, w_tOr, w_tYs, w_eIf, w_eAn, w_eNtT, w_eOrT, w_oS, w_oN, w_eIs, w_eIs2, w_mt, w_mt0, wp_ok, wp_exc, List.getElem?_cons_zero, List.getElem?_cons_succ, List.set_cons_zero, List.set_cons_succ, Option.some.injEq, exists_eq_left', nc_int, nc_bl, nc_tup, nc_ref, nc_non, nc_str, true_and, and_true, List.length_cons, List.length_nil, List.map_cons, List.map_nil, W.bl.injEq, W.int.injEq, Bool.not_true, Bool.not_false, Bool.not_not, Bool.false_eq_true, if_true, if_false, iw_tup, iw_int, iw_bl, iw_str, iw_non, tr_bl, tr_int, tr_tup, tr_non, Bool.or_true, Bool.or_false, Bool.true_or, wipeR, qe_bl, qe_int, qe_non, isN_f, isN_t, beq_self_eq_true, bne_self_eq_false, Bool.false_bne, Bool.true_bne, o_gI, o_gI0, o_gB0, o_mulI, add_ii, o_mulW, o_addW, wd_fold, nc_wd, tr_wd, w_sl, sl_wd, cut_toN, cut_frN, qe_wd, len_wd])
variable {h0 h h' : Hpe} {n K k : Nat} {c c' : Int} {d : Nat} {m : Int}
theorem St.nx (s : St h0 n K c h) : h.nx ≤ 1000 + K := by have := s.g.lt; have := s.x0; omega
theorem St.hn (s : St h0 n K c h) : n < h.nx := Nat.lt_of_lt_of_le s.n0 s.g.le
theorem St.lk (s : St h0 n K c h) : h.lk = [] := s.g.lk.trans s.l0
theorem St.draw (s : St h0 n K c h) (u : UrnAt h' n c') (g : Gr (· = n) k h h') : St h0 n (K + k) c' h' := ⟨u, s.n0, s.x0, s.l0, s.g.trans g⟩
theorem St.grow (s : St h0 n K c h) (g : Gr noM k h h') : St h0 n (K + k) c h' := ⟨urn_gr s.u s.hn g, s.n0, s.x0, s.l0, s.g.trans (g.mono (Nat.le_refl _) fun _ _ z => z.elim)⟩
theorem St.new (s : St h0 n K c h) (o : Ob) : St h0 n (K + 1) c (h.new o) := s.grow (Gr.new o)
theorem St.up {K' : Nat} {c' : Int} (s : St h0 n K c h) (hk : K ≤ K') (hc : c ≤ c') : St h0 n K' c' h := ⟨urn_mono s.u hc, s.n0, s.x0, s.l0, s.g.mono hk fun _ _ z => z⟩
theorem frm_any {g : List W → Hpe → Res W} {ws : List W} {v : W} {h2 : Hpe} (a : noRefs ws = true) (b : noRef v = true) (e : frm g ws Hpe.nil = .ok v Hpe.nil) : frm g ws h2 = .ok v h2 := by
  cases q : g ws Hpe.nil with
  | ok w h' =>
    refine frm_is a b ?_ h2
    rw [q]
    show w = v
    unfold frm at e
    rw [a, q] at e
    cases c : noRef w with
    | true =>
      simp only [cond_true, c] at e
      injection e
    | false =>
      simp only [cond_true, c, cond_false, q] at e
      injection e
  | ex x h' =>
    unfold frm at e
    rw [a, q] at e
    cases c : noRefs (x.fs.map (·.2)) with
    | true =>
      simp only [cond_true, c] at e
      cases e
    | false =>
      simp only [cond_true, c, cond_false, q] at e
      cases e
  | no =>
    unfold frm at e
    rw [a, q] at e
    cases e
theorem alike_any {a b : TT} (ga : a.gd) (gb : b.gd) (za : a.sz ≤ 2000) (zb : b.sz ≤ 2000) (da : a.bd ≤ 31) (db : b.bd ≤ 31) :
    callE (d + 7) 7 [a.enc, b.enc, .int m] h = .ok (.bl (sameW (a.cmb m).enc (b.cmb m).enc)) h := by
  have z := alike_own (d := d) (h := Hpe.nil) (m := m) ga gb za zb da db (Nat.zero_le _) rfl
  rw [callE_at] at z ⊢
  exact frm_any (by rw [noRefs_c, noRefs_c, (TT.gd_p a ga).n, (TT.gd_p b gb).n]; rfl) rfl z
theorem combed_any {t : TT} (g : t.gd) (z : t.sz ≤ 2000) : callE (d + 6) 5 [t.enc, .int m] h = .ok (t.cmb m).enc h := by
  have z := combed_own (d := d) (h := Hpe.nil) (m := m) g z (Nat.zero_le _) rfl
  rw [callE_at] at z ⊢
  exact frm_any (by rw [noRefs_c, (TT.gd_p t g).n]; rfl) (TT.gd_p _ (TT.cmb_gd g)).n z
def PD (h0 : Hpe) (n : Nat) : Po := ⟨fun _ h' => W.non = .bl true ∧ Gr (· = n) 800000 h0 h', fun w h' => w = .bl true ∧ Gr (· = n) 800000 h0 h', fun _ _ => False, fun _ _ => False, fun _ _ _ => False⟩
structure TD (m : Int) (t o b : TT) : Prop where
  tb : TrB 4 121 15 40 34 t
  o : MvS m t o
  b : BtS t b
  m12 : m = 1 ∨ m = 2
theorem ne_cmb {a b : TT} (ga : a.gd) (gb : b.gd) (ne : a.lvs ≠ b.lvs) : sameW (a.cmb m).enc (b.cmb m).enc = false := by
  cases e : sameW (a.cmb m).enc (b.cmb m).enc with
  | false => rfl
  | true =>
    have z := enc_inj _ _ (TT.gd_p _ (TT.cmb_gd ga)).ok (TT.gd_p _ (TT.cmb_gd gb)).ok (sameW_iff.mp e)
    refine absurd ?_ ne
    rw [← (TT.cmb_lvs m a).1, ← (TT.cmb_lvs m b).1, z]
theorem r8 {t o b : TT} {kd : Nat} {v4 v5 v8 : W} (T : TD m t o b) (s : St h0 n 700000 c h) (hk : kd ≤ 1) :
    (A_R8 (callE (d + 50)) [some (.ref n), some (.int (kd : Int)), some (.int m), some t.enc, some v4, some v5, some o.enc, some b.enc, some v8] h).Wp (PD h0 n) := by
  unfold A_R8
  rw [w_seq]
  unfold A_S8
  w_up
  cases e : (kd : Int) == 0 with
  | true =>
    w_up
    exact ⟨rfl, s.g.mono (by omega) fun _ _ z => z⟩
  | false =>
    w_up
    have pt := TT.gd_p t T.tb.gd
    have pb := TT.gd_p b T.b.g
    have g2 : ∀ {x y : TT}, x.gd → y.gd → (TT.mk m [x, y]).gd := fun gx gy w hw => by
      rcases List.mem_append.mp (show w ∈ _ ++ (_ ++ []) from hw) with z | z
      · exact gx w z
      · rw [List.append_nil] at z
        exact gy w z
    have z1 := T.tb.s
    have z2 := T.tb.b
    have b1 := T.b.b
    have s1 := T.b.s
    have al := alike_any (d := d + 43) (h := h) (m := m) (g2 T.tb.gd T.b.g) (g2 T.b.g T.tb.gd) (by show t.sz + (b.sz + 0) + 1 ≤ 2000; omega) (by show b.sz + (t.sz + 0) + 1 ≤ 2000; omega) (by show t.bd + b.bd + 1 ≤ 31; omega) (by show b.bd + t.bd + 1 ≤ 31; omega) 
    have ne : sameW ((TT.mk m [t, b]).cmb m).enc ((TT.mk m [b, t]).cmb m).enc = false := by
      refine ne_cmb (g2 T.tb.gd T.b.g) (g2 T.b.g T.tb.gd) fun z => ?_
      have z : t.lvs ++ (b.lvs ++ []) = b.lvs ++ (t.lvs ++ []) := z
      exact T.b.d (List.append_inj z T.b.n.symm).1.symm
    rw [ne] at al
    refine ⟨enc_nc pt.ok, enc_nc pb.ok, by decide, by decide, enc_nc pb.ok, enc_nc pt.ok, by decide, by decide, ?_⟩
    refine wp_eq al ?_
    exact ⟨rfl, s.g.mono (by omega) fun _ _ z => z⟩
theorem r7 {t o b : TT} {kd a8 : Nat} {v4 v5 : W} (T : TD m t o b) (s : St h0 n 500000 c h) (hk : kd ≤ 1) (g8 : h.get a8 = some (.lst [.bl true, .bl true, .bl false, .bl (sameW t.enc o.enc)])) (l8 : a8 < h.nx) :
    (A_R7 (callE (d + 50)) [some (.ref n), some (.int (kd : Int)), some (.int m), some t.enc, some v4, some v5, some o.enc, some b.enc, some (.ref a8)] h).Wp (PD h0 n) := by
  have pt := TT.gd_p t T.tb.gd
  have po := TT.gd_p o (gd_mv T.tb.gd T.o.l)
  have z2 := T.tb.b
  have o2 := T.o.b
  have p1 := pt.p
  have p2 := po.p
  have nx := s.nx
  unfold A_R7
  rw [w_seq]
  unfold A_S7
  w_up
  refine ⟨enc_nc pt.ok, enc_nc po.ok, wp_eq (qe_64 pt.q po.q (by omega) (by omega)) ?_⟩
  rw [Bool.false_bne]
  refine ⟨by decide, by omega, ?_⟩
  have gn := new_get (h := h) (.lst [.bl true, .bl true, .bl false, .bl (sameW t.enc o.enc)]) (by omega)
  have s2 := s.new (.lst [.bl true, .bl true, .bl false, .bl (sameW t.enc o.enc)])
  have gr : Gr noM 1 h (h.new (.lst [.bl true, .bl true, .bl false, .bl (sameW t.enc o.enc)])) := Gr.new _
  have xn : (h.new (.lst [.bl true, .bl true, .bl false, .bl (sameW t.enc o.enc)])).nx = h.nx + 1 := rfl
  generalize h.new (.lst [.bl true, .bl true, .bl false, .bl (sameW t.enc o.enc)]) = h2 at gn s2 gr xn ⊢
  obtain ⟨h3, e3, g3⟩ := same_refs (C := fun d => callE d 11) (e := d + 49) b11' ((gr.old a8 l8 fun z => z).trans g8) gn (by omega) (by omega) (by show 4 ≤ 1000; omega) (by omega) (by
    intro w hw
    have bl : ∃ x : Bool, w = .bl x := by
      rcases List.mem_cons.mp hw with rfl | hw
      · exact ⟨_, rfl⟩
      rcases List.mem_cons.mp hw with rfl | hw
      · exact ⟨_, rfl⟩
      rcases List.mem_cons.mp hw with rfl | hw
      · exact ⟨_, rfl⟩
      rcases List.mem_cons.mp hw with rfl | hw
      · exact ⟨_, rfl⟩
      · cases hw
    obtain ⟨x, rfl⟩ := bl
    exact ⟨rfl, fun h => same_bl (C := fun d => callE d 11) b11' (d + 48) x h⟩)
  refine wp_eq e3 ⟨true, rfl, ?_⟩
  w_up
  exact r8 T ((s2.grow g3).up (by omega) (Int.le_refl _)) hk
end
end L37
namespace EV
mutual
theorem lsN_le : ∀ w : W, lsN w ≤ tn w
  | .tup ws => by
    have := lsNs_le ws
    show lsNs ws + 1 ≤ tns ws + 1
    omega
  | .non => Nat.zero_le _
  | .bl _ => Nat.zero_le _
  | .int _ => Nat.zero_le _
  | .str _ => Nat.zero_le _
  | .ref _ => Nat.zero_le _
  | .df _ => Nat.zero_le _
  | .clo _ _ => Nat.zero_le _
theorem lsNs_le : ∀ ws : List W, lsNs ws ≤ tns ws
  | [] => Nat.le_refl _
  | w :: ws => by
    have := lsN_le w
    have := lsNs_le ws
    show lsN w + lsNs ws ≤ tn w + tns ws
    omega
end
end EV
namespace L37
open PySem EV
section
local macro_rules | `(tactic| w_up) => `(tactic| simp only [w_seq, w_nil, w_rt, w_rtN, w_ex, w_as, w_if, w_par, w_rs, w_au, w_v, w_k, w_aN, w_aC, w_e2, w_tup, w_lst, w_cl, w_cl0, w_bl, w_asB, w_asT, w_tNt, w_tAn, w_tOr, w_tYs, w_eIf, w_eAn, w_eNtT, w_eOrT, w_oS, w_oN, w_eIs, w_eIs2, w_mt, w_mt0, wp_ok, wp_exc, List.getElem?_cons_zero, List.getElem?_cons_succ, List.set_cons_zero, List.set_cons_succ, Option.some.injEq, exists_eq_left', nc_int, nc_bl, nc_tup, nc_ref, nc_non, nc_str, true_and, and_true, List.length_cons, List.length_nil, List.map_cons, List.map_nil, W.bl.injEq, W.int.injEq, Bool.not_true, Bool.not_false, Bool.not_not, Bool.false_eq_true, if_true, if_false, iw_tup, iw_int, iw_bl, iw_str, iw_non, tr_bl, tr_int, tr_tup, tr_non, Bool.or_true, Bool.or_false, Bool.true_or, wipeR, qe_bl, qe_int, qe_non, isN_f, isN_t, beq_self_eq_true, bne_self_eq_false, Bool.false_bne, Bool.true_bne, o_gI, o_gI0, o_gB0, o_mulI, add_ii, o_mulW, o_addW, wd_fold, nc_wd, tr_wd, w_sl, sl_wd, cut_toN, cut_frN, qe_wd, len_wd])
variable {h0 h h' : Hpe} {n K k : Nat} {c c' : Int} {d : Nat} {m : Int}
theorem lists_call {t : TT} (g : t.gd) (z : t.sz ≤ 121) (b : t.bd ≤ 15) (nx : h.nx ≤ 1000000) (lk : h.lk = []) :
    ∃ (u : W) (h' : Hpe) (root : N), callE (d + 50) 12 [t.enc] h = .ok u h' ∧ Gr noM 605 h h' ∧ noClo u = true ∧ root.val = u ∧ NSay root t h' := by
  have p := TT.gd_p t g
  have pt := p.t
  have pp := p.p
  have ln := lsN_le t.enc
  obtain ⟨u, h', e, gr, ⟨nd, nv, nok, _, nfr, nsz⟩, nc⟩ := lists_ok (C := fun d => callE d 12) (fun d ws h => by show callE (d + 1) 12 ws h = _; rw [callE_at, b12]) (d + 50) t.enc h (d + 50) (by omega) (Nat.le_refl _) p.d (by omega) (by omega) lk
  exact ⟨u, h', nd, e, gr.mono (by omega) fun _ _ z => z, nc, nv, ⟨g, nfr, nok, by omega, by omega⟩⟩
theorem r6 {t o b : TT} {kd : Nat} {v4 v5 : W} (T : TD m t o b) (s : St h0 n 262300 c h) (hk : kd ≤ 1) :
    (A_R6 (callE (d + 50)) [some (.ref n), some (.int (kd : Int)), some (.int m), some t.enc, some v4, some v5, some o.enc, some b.enc, none] h).Wp (PD h0 n) := by
  have gt := T.tb.gd
  have go := gd_mv gt T.o.l
  have pt := TT.gd_p t gt
  have po := TT.gd_p o go
  have pb := TT.gd_p b T.b.g
  have z1 := T.tb.s
  have z2 := T.tb.b
  have o1 := T.o.s
  have o2 := T.o.b
  have c1 := T.b.s
  have c2 := T.b.b
  have nx := s.nx
  have m12 := T.m12
  have a1 : ∀ h, callE (d + 50) 7 [t.enc, o.enc, .int m] h = .ok (.bl true) h := fun h => by
    rw [alike_any (d := d + 43) gt go (by omega) (by omega) (by omega) (by omega), T.o.c, sameW_iff.mpr rfl]
  have a3 : ∀ h, callE (d + 50) 7 [t.enc, b.enc, .int m] h = .ok (.bl false) h := fun h => by
    rw [alike_any (d := d + 43) gt T.b.g (by omega) (by omega) (by omega) (by omega), ne_cmb gt T.b.g fun z => T.b.d z.symm]
  have a4 : ∀ h, callE (d + 50) 7 [t.enc, o.enc, .int 3] h = .ok (.bl (sameW t.enc o.enc)) h := fun h => by
    rw [alike_any (d := d + 43) gt go (by omega) (by omega) (by omega) (by omega), TT.cmb3 t T.tb.n, TT.cmb3 o (T.o.n T.tb.n)]
  obtain ⟨u, h1, root, e1, gr1, nc, rv, sr⟩ := lists_call (d := d) (h := h) go (by omega) (by omega) (by omega) s.lk
  have s1 := s.grow gr1
  have nx1 := s1.nx
  obtain ⟨rt, st⟩ := says_own (h := h1) gt (by omega)
  obtain ⟨h2, e2, gr2, _⟩ := alike_call (d := d + 43) (m := m) sr st (by omega) (by omega) (by omega) s1.lk
  rw [rv, rt, T.o.c, sameW_iff.mpr rfl] at e2
  have s2 := s1.grow gr2
  have nx2 := s2.nx
  unfold A_R6
  rw [w_seq]
  unfold A_S6
  w_up
  refine ⟨enc_nc pt.ok, enc_nc po.ok, wp_eq (a1 _) ⟨enc_nc po.ok, wp_eq e1 ⟨enc_nc pt.ok, wp_eq e2 ?_⟩⟩⟩
  refine ⟨enc_nc pt.ok, enc_nc pb.ok, wp_eq (a3 _) ⟨enc_nc pt.ok, enc_nc po.ok, wp_eq (a4 _) ⟨by decide, by omega, ?_⟩⟩⟩
  exact r7 T ((s2.new _).up (by omega) (Int.le_refl _)) hk (new_get _ (by omega)) (Nat.lt_succ_self _)
theorem r5 {t : TT} {kd dp : Nat} {v4 v5 : W} (ht : Tr dp t) (hd : dp ≤ 4) (m12 : m = 1 ∨ m = 2) (s : St h0 n 262100 c h) (hc : c ≤ 10000) (hk : kd ≤ 1) :
    (A_R5 (callE (d + 50)) [some (.ref n), some (.int (kd : Int)), some (.int m), some t.enc, some v4, some v5, none, none, none] h).Wp (PD h0 n) := by
  have tb := tr4 hd ht
  have gt := tb.gd
  have pt := TT.gd_p t gt
  have z1 := tb.s
  have z2 := tb.b
  have nx := s.nx
  unfold A_R5
  rw [w_seq]
  unfold A_S5
  w_up
  refine ⟨enc_nc pt.ok, ?_⟩
  refine (turned_wp (m := m) 15 t (d + 50) h c z2 (by omega) gt (by omega) s.u s.hn (by omega) (by omega) s.lk).mono (fun w h1 z => ?_) (fun _ _ z => z.elim)
  obtain ⟨o, rfl, mo, u1, g1⟩ := z
  have s1 := s.draw u1 g1
  have nx1 := s1.nx
  refine ⟨enc_nc pt.ok, ?_⟩
  refine (bent_wp dp t (d + 50) h1 _ ht hd (by omega) u1 s1.hn (by omega) (by omega) s1.lk).mono (fun w h2 z => ?_) (fun _ _ z => z.elim)
  obtain ⟨b, rfl, bb, u2, g2⟩ := z
  have s2 := s1.draw u2 g2
  exact r6 ⟨tb, mo, bb, m12⟩ (s2.up (by omega) (Int.le_refl _)) hk
theorem r4 {t td : TT} {kd dp : Nat} (ht : Tr dp t) (hd : dp ≤ 4) (m12 : m = 1 ∨ m = 2) (mt : MvS m t td) (ns : td.spots m = []) (s : St h0 n 160600 c h) (hc : c ≤ 10000) (hk : kd ≤ 1) :
    (A_R4 (callE (d + 50)) [some (.ref n), some (.int (kd : Int)), some (.int m), some t.enc, some td.enc, some (t.cmb m).enc, none, none, none] h).Wp (PD h0 n) := by
  have tb := tr4 hd ht
  have gt := tb.gd
  have gd := gd_mv gt mt.l
  have pt := TT.gd_p t gt
  have pd := TT.gd_p td gd
  have z1 := tb.s
  have z2 := tb.b
  have y1 := mt.s
  have y2 := mt.b
  have nx := s.nx
  have ed : td.cmb m = td := no_spots td ns
  have et' : t.cmb m = td := mt.c.symm.trans ed
  obtain ⟨a, h1, e1, g1, al, an, gr1⟩ := spots_call (m := m) 15 td (d + 50) h (by omega) (by omega) gd (by omega) (by omega) s.lk
  have s1 := s.grow gr1
  have nx1 := s1.nx
  rw [ns] at g1
  unfold A_R4
  rw [w_seq]
  unfold A_S4
  w_up
  refine ⟨enc_nc pd.ok, wp_eq e1 ⟨by decide, by omega, ?_⟩⟩
  have gn := new_get (h := h1) (.lst []) (by omega)
  have ga := (show (h1.new (.lst [])).get a = h1.get a from new_old (.lst []) (by omega)).trans g1
  have s2 := s1.new (.lst [])
  have xn : (h1.new (.lst [])).nx = h1.nx + 1 := rfl
  generalize h1.new (.lst []) = h2 at gn ga s2 xn ⊢
  refine wp_eq (qe_nil ga gn rfl (Nat.zero_le _)) ⟨false, rfl, ?_⟩
  simp only [Bool.false_eq_true, if_false]
  have nx2 := s2.nx
  obtain ⟨u, h3, root, e3, gr3, nc3, rv, sr⟩ := lists_call (d := d) (h := h2) gt (by omega) (by omega) (by omega) s2.lk
  have s3 := s2.grow gr3
  have nx3 := s3.nx
  obtain ⟨h4, e4, gr4, _⟩ := combed_call (d := d + 44) (m := m) sr (by omega) s3.lk
  rw [rv, et'] at e4
  have s4 := s3.grow gr4
  have nx4 := s4.nx
  have e5 : callE (d + 50) 5 [td.enc, .int m] h4 = .ok td.enc h4 := by rw [combed_any (d := d + 44) gd (by omega), ed]
  rw [et']
  refine ⟨enc_nc pd.ok, enc_nc pt.ok, wp_eq e3 (wp_eq e4 ⟨enc_nc pd.ok, wp_eq e5 ⟨by decide, by omega, enc_nc pd.ok, enc_nc pd.ok, enc_nc pd.ok, by decide, by show h4.nx + 1 < _; omega, ?_⟩⟩)⟩
  have gA := new_get (h := h4) (.lst [td.enc, td.enc, td.enc]) (by omega)
  have s5 := s4.new (.lst [td.enc, td.enc, td.enc])
  have x5 : (h4.new (.lst [td.enc, td.enc, td.enc])).nx = h4.nx + 1 := rfl
  generalize h4.new (.lst [td.enc, td.enc, td.enc]) = h5 at gA s5 x5 ⊢
  have gB := new_get (h := h5) (.lst [td.enc, td.enc, td.enc]) (by omega)
  have gC := (show (h5.new (.lst [td.enc, td.enc, td.enc])).get h4.nx = h5.get h4.nx from new_old _ (by omega)).trans gA
  have s6 := s5.new (.lst [td.enc, td.enc, td.enc])
  have x6 : (h5.new (.lst [td.enc, td.enc, td.enc])).nx = h5.nx + 1 := rfl
  generalize h5.new (.lst [td.enc, td.enc, td.enc]) = h6 at gB gC s6 x6 ⊢
  have qt := pd.t
  have qp := pd.p
  obtain ⟨h7, e7, g7⟩ := same_refs (C := fun d => callE d 11) (e := d + 49) b11' gC gB (by omega) (by omega) (by show 3 ≤ 1000; omega) (by omega) (by
    intro w hw
    have e : w = td.enc := by
      rcases List.mem_cons.mp hw with rfl | hw
      · rfl
      rcases List.mem_cons.mp hw with rfl | hw
      · rfl
      rcases List.mem_cons.mp hw with rfl | hw
      · rfl
      · cases hw
    subst e
    exact ⟨enc_nc pd.ok, fun h => same_q (C := fun d => callE d 11) b11' (d + 49) td.enc h (d + 49) (by omega) (Nat.le_refl _) pd.q (by omega)⟩)
  refine wp_eq e7 ⟨true, rfl, ?_⟩
  w_up
  exact r5 ht hd m12 ((s6.grow g7).up (by omega) (Int.le_refl _)) hc hk
theorem r2 {t : TT} {kd dp : Nat} (ht : Tr dp t) (hd : dp ≤ 4) (m12 : m = 1 ∨ m = 2) (s : St h0 n 600 c h) (hc : c ≤ 5000) (hk : kd ≤ 1) :
    (A_R2 (callE (d + 50)) [some (.ref n), some (.int (kd : Int)), some (.int m), some t.enc, none, none, none, none, none] h).Wp (PD h0 n) := by
  have tb := tr4 hd ht
  have gt := tb.gd
  have pt := TT.gd_p t gt
  have z1 := tb.s
  have z2 := tb.b
  have z3 := tb.p
  have nx := s.nx
  unfold A_R2
  rw [w_seq]
  unfold A_S2
  w_up
  refine ⟨enc_nc pt.ok, ?_⟩
  refine (all_wp (d := d + 14) (m := m) gt (by omega) (by omega) (by omega) s.u s.hn (by omega) (by omega) s.lk).mono (fun w h1 z => ?_) (fun _ _ z => z.elim)
  obtain ⟨td, rfl, mt, ns, u1, g1⟩ := z
  have s1 := s.draw u1 g1
  unfold A_R3
  rw [w_seq]
  unfold A_S3
  w_up
  refine ⟨enc_nc pt.ok, wp_eq (combed_any (d := d + 44) gt (by omega)) ?_⟩
  exact r4 ht hd m12 mt ns (s1.up (by omega) (Int.le_refl _)) (by omega) hk
theorem r0 (s : St h0 n 0 c h) (hc : c ≤ 1000) :
    (A_R0 (callE (d + 50)) [some (.ref n), none, none, none, none, none, none, none, none] h).Wp (PD h0 n) := by
  have nx := s.nx
  have hn := s.hn
  unfold A_R0
  rw [w_seq]
  unfold A_S0
  w_up
  refine w_take (et (d + 49)) s.u (by omega) (by decide) (by decide) (by omega) fun t h1 t0 t1 u1 g1 => ?_
  have s1 := s.draw u1 g1
  have nx1 := s1.nx
  have hn1 := s1.hn
  rw [o_gB0]
  obtain ⟨kd, k1, ek⟩ : ∃ kd : Nat, kd ≤ 1 ∧ bInt [.bl (decide (0 < t))] h1 = .ok (.int (kd : Int)) h1 := by
    cases decide (0 < t) with
    | true => exact ⟨1, Nat.le_refl _, rfl⟩
    | false => exact ⟨0, Nat.zero_le _, rfl⟩
  refine wp_eq rfl (wp_eq ek ?_)
  refine w_take (et (d + 49)) s1.u (by omega) (by decide) (by decide) (by omega) fun x h2 x0 x1 u2 g2 => ?_
  have s2 := s1.draw u2 g2
  have nx2 := s2.nx
  have hn2 := s2.hn
  rw [add_ii, wp_ok]
  have m12 : (1 : Int) + x = 1 ∨ (1 : Int) + x = 2 := by omega
  generalize (1 : Int) + x = m at m12
  unfold A_R1
  rw [w_seq]
  unfold A_S1
  w_up
  refine ⟨by match kd, k1 with | 0, _ => decide | 1, _ => decide, ?_⟩
  rw [show (2 : Int) + 2 * (kd : Int) = ((2 + 2 * kd : Nat) : Int) by omega]
  have c4 : cT (2 + 2 * kd) ≤ 524 := by
    match kd, k1 with
    | 0, _ => decide
    | 1, _ => decide
  refine (tree_wp (n := n) (kd := (kd : Int)) (2 + 2 * kd) (d + 50) h2 _ (by omega) (by omega) u2 hn2 (by omega) (by omega) s2.lk).mono (fun w h3 z => ?_) (fun _ _ z => z.elim)
  obtain ⟨t', rfl, ht, u3, g3⟩ := z
  exact r2 ht (by omega) m12 ((s2.draw u3 g3).up (by omega) (Int.le_refl _)) (by omega) k1
theorem right_call (s : St h0 n 0 c h) (hc : c ≤ 1000) : ∃ h', callE (d + 51) 21 [.ref n] h = .ok (.bl true) h' ∧ Gr (· = n) 800000 h0 h' := by
  suffices z : (callE (d + 51) 21 [.ref n] h).Wp (fun w h' => w = .bl true ∧ Gr (· = n) 800000 h0 h') (fun _ _ => False) by
    obtain ⟨w, h', e, rfl, g⟩ := wp_ex z
    exact ⟨h', e, g⟩
  rw [callE_at, show (bodies (callE (d + 50))).get 21 = runB 9 (F__law_right (callE (d + 50))) from rfl, run_eq, right_eq]
  exact (r0 (d := d) s hc)
end
end L37
namespace EV
open PySem
theorem cells1_ok (ns : List Int) (hl : ns.length ≤ 63) (o : Ob) (ho : o = .lst (ns.map W.int) ∨ o = .fz (ns.map W.int)) : ∃ (c : Nat) (z : Int) (h' : Hpe), runB 6 uCells [.ref 0, .int 1] (Hpe.nil.new o) = .ok (.ref c) h' ∧ h'.get c = some (.lst [.int z]) ∧ h'.nx < 10 ∧ h'.lk = [] := by
  have rd0 : ∀ (n : Nat) (l r : Tr), rdL ⟨n, .nd (some o) l r, []⟩ 0 = some (ns.map W.int) := fun n l r => by
    rcases ho with rfl | rfl <;> kernel_rfl
  have v0 : ∀ (ρ : Rho) (h : Hpe), eV 0 (some (.ref 0) :: ρ) h = .ok (.ref 0) h := fun _ _ => rfl
  cases ns with
  | nil =>
    refine ⟨3, 0, ⟨5, .nd (some o) (.nd (some (.lst [])) (.nd (some (.lst [.int 0])) .lf .lf) .lf) (.nd (some (.lst [])) (.nd (some (.lst [])) .lf .lf) .lf), []⟩, ?_, by kernel_rfl, by show 5 < 10; omega, rfl⟩
    rcases ho with rfl | rfl <;> kernel_rfl
  | cons x r =>
    obtain ⟨xs, ex, lx⟩ := cut_map (x :: r) (some 1) (some 63)
    have s1 : eSl (eV 0) oN (oS (eV 1)) rho1 (Hpe.nil.new o) = .ok (.ref 1) ⟨2, .nd (some o) (.nd (some (.lst [.int x])) .lf .lf) .lf, []⟩ := by
      refine (sl_ok (ws := (x :: r).map W.int) (lo := none) (hi := some 1) (h1 := Hpe.nil.new o) (h2 := Hpe.nil.new o) (h3 := Hpe.nil.new o) (v0 _ _) rfl (by kernel_rfl) (rd0 1 .lf .lf)).trans ?_
      rw [List.map_cons, cut_one]
      kernel_rfl
    have s2 : eBl bLst3 (aC (eSl (eV 0) oN (oS (eV 1))) aN) rho1 (Hpe.nil.new o) = .ok (.ref 2) ⟨3, .nd (some o) (.nd (some (.lst [.int x])) .lf .lf) (.nd (some (.lst [.int x])) .lf .lf), []⟩ := (bl_1 s1).trans (by kernel_rfl)
    have s3 : eOrT (eBl bLst3 (aC (eSl (eV 0) oN (oS (eV 1))) aN)) (eLst (aC (eK (.int 0)) aN)) rho1 (Hpe.nil.new o) = .ok (.ref 2) ⟨3, .nd (some o) (.nd (some (.lst [.int x])) .lf .lf) (.nd (some (.lst [.int x])) .lf .lf), []⟩ := (orT_of s2).trans (by kernel_rfl)
    have s4 : sAs (eOrT (eBl bLst3 (aC (eSl (eV 0) oN (oS (eV 1))) aN)) (eLst (aC (eK (.int 0)) aN))) (gN 2) rho1 (Hpe.nil.new o) = .nx (rhoC none none none) ⟨3, .nd (some o) (.nd (some (.lst [.int x])) .lf .lf) (.nd (some (.lst [.int x])) .lf .lf), []⟩ := (sas_n s3).trans (by kernel_rfl)
    have s5 : eSl (eV 0) (oS (eV 1)) (oS (eK (.int 63))) (rhoC none none none) ⟨3, .nd (some o) (.nd (some (.lst [.int x])) .lf .lf) (.nd (some (.lst [.int x])) .lf .lf), []⟩ = .ok (.ref 3) (cellsH o x x (xs.map W.int)) := by
      refine (sl_ok (ws := (x :: r).map W.int) (lo := some 1) (hi := some 63) (h1 := ⟨3, .nd (some o) (.nd (some (.lst [.int x])) .lf .lf) (.nd (some (.lst [.int x])) .lf .lf), []⟩) (h2 := ⟨3, .nd (some o) (.nd (some (.lst [.int x])) .lf .lf) (.nd (some (.lst [.int x])) .lf .lf), []⟩) (h3 := ⟨3, .nd (some o) (.nd (some (.lst [.int x])) .lf .lf) (.nd (some (.lst [.int x])) .lf .lf), []⟩) (by kernel_rfl) (by kernel_rfl) (by kernel_rfl) (rd0 3 _ _)).trans ?_
      rw [ex]
      kernel_rfl
    have s6 : cellsI (rhoC none none none) ⟨3, .nd (some o) (.nd (some (.lst [.int x])) .lf .lf) (.nd (some (.lst [.int x])) .lf .lf), []⟩ = .ok (srcE (.ref 3)) (cellsH o x x (xs.map W.int)) := cellsI_ok s5 (by kernel_rfl : rdL (cellsH o x x (xs.map W.int)) 3 = some (xs.map W.int))
    obtain ⟨z', v3, v4, v5, s7⟩ := cells_turns o x xs 1000000 0 x none none none (by omega) (by omega) (by omega)
    have s8 := (sfor_ok (g := gTL 2 (gsC (gN 3) (gsC (gN 4) gsN))) (b := cellsB) s6).trans s7
    refine ⟨2, z', cellsH o x z' (xs.map W.int), ?_, cells_g o x z' _, by show 4 < 10; omega, rfl⟩
    refine run_rt (n := 6) (ws := [.ref 0, .int 1]) ?_
    show sSeq (sAs (eOrT (eBl bLst3 (aC (eSl (eV 0) oN (oS (eV 1))) aN)) (eLst (aC (eK (.int 0)) aN))) (gN 2)) (sSeq (sFor cellsI (gTL 2 (gsC (gN 3) (gsC (gN 4) gsN))) cellsB) (sSeq (sRt (eV 2)) sNil)) rho1 (Hpe.nil.new o) = _
    exact (seq_nx s4).trans ((seq_nx s8).trans (seq_rt (srt_ok (cells_2 o x z' _ _ _ _))))
end EV
namespace L37
open PySem EV
theorem b10 (d : Nat) : callE (d + 1) 10 = runB 6 uCells := rfl
theorem b8 (d : Nat) : callE (d + 1) 8 = runB 3 (uBox 3169037) := rfl
section
local macro_rules | `(tactic| w_up) => `(tactic| simp only [w_seq, w_nil, w_rt, w_rtN, w_ex, w_as, w_if, w_par, w_rs, w_au, w_v, w_k, w_aN, w_aC, w_e2, w_tup, w_lst, w_cl, w_cl0, w_bl, w_asB, w_asT, w_tNt, w_tAn, w_tOr, w_tYs, w_eIf, w_eAn, w_eNtT, w_eOrT, w_oS, w_oN, w_eIs, w_eIs2, w_mt, w_mt0, wp_ok, wp_exc, List.getElem?_cons_zero, List.getElem?_cons_succ, List.set_cons_zero, List.set_cons_succ, Option.some.injEq, exists_eq_left', nc_int, nc_bl, nc_tup, nc_ref, nc_non, nc_str, true_and, and_true, List.length_cons, List.length_nil, List.map_cons, List.map_nil, W.bl.injEq, W.int.injEq, Bool.not_true, Bool.not_false, Bool.not_not, Bool.false_eq_true, if_true, if_false, iw_tup, iw_int, iw_bl, iw_str, iw_non, tr_bl, tr_int, tr_tup, tr_non, Bool.or_true, Bool.or_false, Bool.true_or, wipeR, qe_bl, qe_int, qe_non, isN_f, isN_t, beq_self_eq_true, bne_self_eq_false, Bool.false_bne, Bool.true_bne, o_gI, o_gI0, o_gB0, o_mulI, add_ii, o_mulW, o_addW, wd_fold, nc_wd, tr_wd, w_sl, sl_wd, cut_toN, cut_frN, qe_wd, len_wd])
theorem says : Says (runB 1 (F_law (callE 113))) := by
  intro ns hl o ho
  obtain ⟨c, x, h1, e1, g1, nx1, lk1⟩ := cells1_ok ns hl o ho
  obtain ⟨a, b, e2⟩ := box_ok (c0 := 3169037) g1 (by omega)
  have z : (runB 1 (F_law (callE 113)) [.ref 0] (Hpe.nil.new o)).Wp (fun w _ => w = .bl true) (fun _ _ => False) := by
    rw [run_eq]
    show (F_law (callE 113) [some (.ref 0)] (Hpe.nil.new o)).Wp _
    unfold F_law
    w_up
    refine wp_eq (hand _) ?_
    w_up
    refine wp_eq (show callE 113 10 [.ref 0, .int 1] (Hpe.nil.new o) = _ by rw [b10 112]; exact e1) ?_
    refine wp_eq (show callE 113 8 [.ref c, .int 0] h1 = _ by rw [b8 112]; exact e2) ?_
    have su : St (h1.new (.lst [.int a, .int b, .int 0])) h1.nx 0 0 (h1.new (.lst [.int a, .int b, .int 0])) :=
      ⟨⟨a, b, 0, new_get _ (by omega), by omega, by omega⟩, Nat.lt_succ_self _, by show h1.nx + 1 ≤ 1000; omega, lk1, Gr.refl⟩
    obtain ⟨h2, e3, _⟩ := right_call (d := 62) su (by decide)
    exact wp_eq e3 rfl
  cases e : runB 1 (F_law (callE 113)) [.ref 0] (Hpe.nil.new o) with
  | ok w h' => rw [e] at z; exact ⟨h', congrArg (fun w => Res.ok w h') z⟩
  | ex x h' => rw [e] at z; exact z.elim
  | no => rw [e] at z; exact z.elim
end
end L37
open PySem PySem.W PyProof.Rows
set_option maxRecDepth 100000 in
set_option maxHeartbeats 0 in
theorem PySem.Challenge.cw_unwound_k37_whole_combed_beside_single_m_holds : PySem.Challenge.rw_unwound_k37_whole_combed_beside_single_m.Holds := by
  refine L37.hd ⟨L37.h0, L37.hsq rfl, ?_⟩
  k_fill
  have _ := L37.zfill
  refine EV.walk_E (names := ["combed"]) (x := "script") rfl rfl (fun w h Y => by first | exact PySem.W.kIn_of Y | exact PySem.W.km_in_of Y) (by kernel_rfl) (fun w => by kernel_rfl) L37.says ?F
  case F =>
    intro w mg fa h KX N hfa
    have A0 := L37.zA0 KX N
    have A1 := L37.zA1 KX N
    have A2 := L37.zA2 KX N
    have A3 := L37.zA3 KX N
    have A4 := L37.zA4 KX N
    have A5 := EV.atC_mk (n := "combed") (st := L37.s_combed) (ps := ["one", "maker"]) KX N (by k_is) (by k_is) (by k_is) (by k_is) (by k_is) (by rfl) (by kernel_rfl) (by kernel_rfl) (fun _ _ _ _ _ _ us hl => match us, hl with | [_, _], _ => rfl)
    have A6 := L37.zA6 KX N
    have A7 := L37.zA7 KX N
    have A8 := L37.zA8 KX N
    have A9 := L37.zA9 KX N
    have A10 := L37.zA10 KX N
    have A11 := L37.zA11 KX N
    have A12 := L37.zA12 KX N
    have A13 := L37.zA13 KX N
    have A14 := L37.zA14 KX N
    have A15 := L37.zA15 KX N
    have A16 := L37.zA16 KX N
    have A17 := L37.zA17 KX N
    have A18 := L37.zA18 KX N
    have A19 := L37.zA19 KX N
    have A20 := L37.zA20 KX N
    have A21 := L37.zA21 KX N
    have A22 := L37.zA22 KX N
    have A23 := L37.zA23 KX N
    have m_abs : mg "abs" = none := PySem.W.mg_none_of KX N (by k_is)
    have m_all : mg "all" = none := PySem.W.mg_none_of KX N (by k_is)
    have m_bool : mg "bool" = none := PySem.W.mg_none_of KX N (by k_is)
    have m_enumerate : mg "enumerate" = none := PySem.W.mg_none_of KX N (by k_is)
    have m_int : mg "int" = none := PySem.W.mg_none_of KX N (by k_is)
    have m_isinstance : mg "isinstance" = none := PySem.W.mg_none_of KX N (by k_is)
    have m_len : mg "len" = none := PySem.W.mg_none_of KX N (by k_is)
    have m_list : mg "list" = none := PySem.W.mg_none_of KX N (by k_is)
    have m_range : mg "range" = none := PySem.W.mg_none_of KX N (by k_is)
    have m_reversed : mg "reversed" = none := PySem.W.mg_none_of KX N (by k_is)
    have m_str : mg "str" = none := PySem.W.mg_none_of KX N (by k_is)
    have m_tuple : mg "tuple" = none := PySem.W.mg_none_of KX N (by k_is)
    have m_zip : mg "zip" = none := PySem.W.mg_none_of KX N (by k_is)
    exact ⟨_, [], [(_, _)], _, _, _, EV.clOf [], ⟨⟨A5.tab, A5.no⟩, trivial⟩, L37.law_at hfa A0 A1 A2 A3 A4 A5 (by simp) A6 A7 A8 A9 A10 A11 A12 A13 A14 A15 A16 A17 A18 A19 A20 A21 A22 A23 m_abs m_all m_bool m_enumerate m_int m_isinstance m_len m_list m_range m_reversed m_str m_tuple m_zip⟩
