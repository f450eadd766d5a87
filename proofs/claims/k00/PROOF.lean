import PyProof.Rows.All
import Wide.All
import OpenK.AllK
import Wide.FinOn
import KE.OsRunLaw
import PySem.Challenge.RW_unwound_k00_errors
import KE.KDictKeyed
import HandS.Dict
import HandS.DictTup
import HandS.TupSets
import HandS.Strs
import KE.SortData
import PyProof.Transfer
import HandS.Deep
import HandS.SortInts
import HandS.ForMost
import HandS.ForExc
import HandS.TryMany
import HandS.CallSlots
import HandS.TupAny
import HandS.TupMul
import HandS.Nested
import HandS.ExcInit
import HandS.Flow
import HandS.Walk
import HandS.Zip
import HandS.RevRange
import HandS.IsInst
import HandS.Small
import KE.GoesEnum
import HandS.Rev
import HandS.ExcField
import HandS.ExcIs
import HandS.AnyAll
import HandS.GenOver
import HandS.FStr
import KE.KExcInit
import KE.KExcIs
import HandS.Style
import HandS.Defaults
import KE.DataMinMax
import HandS.SortKw
import PyProof.Rows.TupReads
import HandS.DictComp
import HandS.WordsDict
import HandS.TupLen
import HandS.NoneIn
import PyProof.EqKinds
import PyProof.Rows.TupDisplay
import PyProof.P3Eq
import KE.GoesRaise
import KE.GoesComp
import HandS.Comp
import KE.GoesSet
import HandS.EndTab
import KE.KExcTry
import KE.KExcStr
import HandS.NestedK
import HandS.Gcd
import HandS.WideBits
import HandS.Iter
import KE.KSortKeySt
import HandS.Star
import HandS.SetKeys
import KE.KMinKey
import KE.KDictSum
import PyProof.Rows.SumGenD
import HandS.ClsMeth
import KE.KDictCopyH
import KE.KDictZip
import KE.KDictPairs
import KE.DataAny
import HandS.Conv
import PyProof.Rows.SortShellAny
import HandS.FStrTup
import KE.LtData
import KE.KIndexOf
noncomputable section
set_option Elab.async false
namespace HeadCut
theorem cut3 {α β γ δ : Type _} {x : Option α} {fa : α → β} {fb : α → γ} {fc : α → δ} {a : β} {b : γ} {c : δ} (h1 : x.map fa = some a) (h2 : x.map fb = some b) (h3 : x.map fc = some c) : x.map (fun s => (fa s, fb s, fc s)) = some (a, b, c) := by
  cases x with
  | none => cases h1
  | some y =>
    cases h1
    cases h2
    cases h3
    rfl
end HeadCut
namespace HeadCut
end HeadCut
namespace HeadCut
open PyProof.Rows
end HeadCut
set_option linter.all false
namespace HeadCut
open PySem PySem.W PyProof.Rows
noncomputable abbrev twR := PySem.W.Fast.tw3399658132070893891
noncomputable abbrev twT := PySem.W.Fast.tw5930804224584009831
noncomputable abbrev twV := PySem.W.Fast.tw2578726214315757710
noncomputable abbrev twP := PySem.W.Fast.tw210736558901404530
theorem twR_eq : recsOf = twR := PySem.W.Fast.te3399658132070893891
theorem twT_eq : PySem.Heap.tab0Ok = twT := PySem.W.Fast.te5930804224584009831
theorem twV_eq : valsOk = twV := PySem.W.Fast.te2578726214315757710
theorem twP_eq : plainsOf = twP := PySem.W.Fast.te210736558901404530
abbrev shp (d : DefRec) : Option FnShape := some d.shape
end HeadCut
set_option maxRecDepth 100000
namespace HeadCut
open PySem PySem.W PyProof.Rows HeadRun
def fRec : Stmt → Option DefRec
  | .FunctionDef n a b _ _ _ sc _ _ pos => some ⟨n, a, b, sc, pos⟩
  | _ => none
def fMeth : Stmt → Option MethRec
  | .FunctionDef n a b _ _ _ sc _ _ _ => some ⟨n, a, b, sc⟩
  | _ => none
def fCls : Stmt → Option ClsRec
  | .ClassDef n [] _ body _ _ _ _ _ st pos => some ⟨n, none, body, st, pos.line, body.filterMap fMeth⟩
  | _ => none
noncomputable abbrev twSh := PySem.W.Fast.tw2020367076256383516
noncomputable abbrev twO := PySem.W.Fast.tw5991557255702980513
noncomputable abbrev twOwn := PySem.W.Fast.tw2817317335113233408
noncomputable abbrev twQu := PySem.W.Fast.tw16017708745293785899
noncomputable abbrev twNl := PySem.W.Fast.tw15623941606353435126
noncomputable abbrev twNd := PySem.W.Fast.tw912232860611745870
noncomputable abbrev twK := PySem.W.Fast.tw10880121769531294198
noncomputable abbrev twAc := PySem.W.Fast.tw14722251495701143533
noncomputable abbrev twTb := PySem.W.Fast.tw10994771534591457954
noncomputable abbrev twBm := PySem.W.Fast.tw5244371056499926238
noncomputable abbrev twNs := PySem.W.Fast.tw9649274521512697073
noncomputable abbrev twIn := PySem.W.Fast.tw2458874890965802552
noncomputable abbrev twPS := PySem.W.Fast.tw15717526521509864196
noncomputable abbrev twCn := PySem.W.Fast.tw1696807537771891022
theorem twCn_eq : constAt = twCn := PySem.W.Fast.te1696807537771891022
theorem twSh_eq : PySem.Heap.shapeAt = twSh := PySem.W.Fast.te2020367076256383516
theorem twO_eq : ownsOf = twO := PySem.W.Fast.te5991557255702980513
theorem twOwn_eq : PySem.Heap.ownExcOk = twOwn := PySem.W.Fast.te2817317335113233408
theorem twQu_eq : PySem.Heap.quietOk = twQu := PySem.W.Fast.te16017708745293785899
theorem twNl_eq : PySem.Heap.noLimitOk = twNl := PySem.W.Fast.te15623941606353435126
theorem twNd_eq : PySem.Heap.noDigitsOk = twNd := PySem.W.Fast.te912232860611745870
theorem twK_eq : PySem.Heap.keysOk = twK := PySem.W.Fast.te10880121769531294198
theorem twAc_eq : PySem.Heap.accountedOkI = twAc := PySem.W.Fast.te14722251495701143533
theorem twTb_eq : tablesOk = twTb := PySem.W.Fast.te10994771534591457954
theorem twBm_eq : PySem.Heap.bmainOk = twBm := PySem.W.Fast.te5244371056499926238
theorem twNs_eq : PySem.Heap.noSeerOk = twNs := PySem.W.Fast.te9649274521512697073
theorem twIn_eq : importsNone = twIn := PySem.W.Fast.te2458874890965802552
theorem twPS_eq : PySem.Heap.plainShapeAt = twPS := PySem.W.Fast.te15717526521509864196
noncomputable def fSeen (q : Program) (R : List DefRec) (PL : List ClsRec) (LW LN CN mods : List PySem.Str) (WL : List (PySem.Str × WData)) (Xt : Shared → Bool) (s : Shared) :=
  (R.map (fun d => twSh s.heap mainGlobals d.name), PL.map (fun c => twPS s.heap c.withCmp), s.heap.bltView,
   ((twO q).all fun o => twOwn s.heap o.name o.chain o.bm o.newId && twQu s.heap o.name) && (s.heap.isNs mainGlobals && s.heap.isNs builtinsNs && (twNl s.heap && twNd s.heap)),
   (twK s.heap LW (R.map (·.name)) LN CN && twAc s.heap mods && twTb q s.heap && Xt s && (s.gens.size == 0) && WL.all (twCn s.heap)),
   ((R.all fun d => twT s.heap d.name) && twBm s.heap && twV q s.heap) && (!twIn q || twNs s.heap))
noncomputable def fGood (R : List DefRec) (PL : List ClsRec) := (R.map shp, PL.map (fun c => (some c.withCmp.plainShape : Option PlainShape)), bltViewBooted, true, true, true)
theorem open_of {q : Program} {lo mods : List PySem.Str} {Xt : Shared → Bool} {s : Shared} {R : List DefRec} {PL : List ClsRec} {LW LN CN : List PySem.Str} {WL : List (PySem.Str × WData)}
    (eR : recsOf q = R) (eP : plainsOf q (looseW q lo) = PL) (eC : (clssOf q (looseW q lo)).map (·.name) = CN) (eL : looseW q lo = LW) (eN : (litsOf q).map (·.1) = LN) (eD : drecsOf q = []) (eDC : dclssOf q lo = []) (eWD : wdefsOf q = []) (eWL : wlitsOf q = WL) (eWC : wclssOf q lo = [])
    (e : fSeen q R PL LW LN CN mods WL Xt s = fGood R PL) : openSeen q lo mods Xt true s = openGood q lo := by
  unfold fSeen fGood at e
  simp only [Prod.mk.injEq] at e
  obtain ⟨a1, a7, a4, a23, a5, a6⟩ := e
  rw [← twSh_eq] at a1
  rw [← twPS_eq] at a7
  rw [← twO_eq, ← twOwn_eq, ← twQu_eq, ← twNl_eq, ← twNd_eq] at a23
  rw [← twK_eq, ← twAc_eq, ← twTb_eq, ← twCn_eq] at a5
  rw [← twT_eq, ← twBm_eq, ← twV_eq, ← twIn_eq, ← twNs_eq] at a6
  simp only [Bool.and_eq_true] at a23 a5
  obtain ⟨a2, ⟨n1, n2⟩, n3⟩ := a23
  obtain ⟨⟨⟨⟨⟨k1, k2⟩, k3⟩, k4⟩, k5⟩, k6⟩ := a5
  have s1 : seen ((recsOf q).map (·.name)) (ownsOf q) [] { s with gens := #[] } = expectedOf q := by
    unfold seen expectedOf
    have z1 : ((recsOf q).map (·.name)).map (s.heap.shapeAt mainGlobals) = (recsOf q).map fun d => some d.shape := by
      rw [eR, List.map_map]
      exact a1
    have z3 : (s.heap.noLimitOk && s.heap.noDigitsOk) = true := by rw [n3.1, n3.2]; rfl
    show Seen.mk (((recsOf q).map (·.name)).map (s.heap.shapeAt mainGlobals)) _ _ (s.heap.isNs mainGlobals) (s.heap.isNs builtinsNs) (s.heap.noLimitOk && s.heap.noDigitsOk) _ = _
    rw [z1, n1, n2, z3]
    show Seen.mk _ ((ownsOf q).all fun o => s.heap.ownExcOk o.name o.chain o.bm o.newId && s.heap.quietOk o.name) _ _ _ _ _ = _
    rw [a2]
    rfl
  have s3 : (s.heap.keysOk (looseW q lo) ((recsOf q).map (·.name)) ((litsOf q).map (·.1)) ((clssOf q (looseW q lo)).map (·.name)) && s.heap.accountedOkI mods && s.heap.isNs mainGlobals && s.heap.isNs builtinsNs && tablesOk q s.heap && Xt s && (if true then s.gens.size == 0 else !leftWithCleanup s.gens)) = true := by
    rw [eC, eL, eN, eR, k1, k2, n1, n2, k3, k4]
    exact k5
  have s4 : tabsOk q s = true := by
    unfold tabsOk
    rw [eR]
    exact a6
  have s6 : plainSeenE q (looseW q lo) s = plainGoodE q (looseW q lo) := by
    unfold plainSeenE plainGoodE
    rw [eP]
    exact a7
  have s5 : pinSeenD q (drecsOf q) s = pinGoodD (drecsOf q) := by rw [eD]; rfl
  have s7 : plainSeenD q lo s = plainGoodD q lo := by unfold plainSeenD plainGoodD; rw [eDC]; rfl
  have s8 : wideSeen q s = wideGood q := by
    unfold wideSeen wideGood
    rw [eWD, eWL, k6]
    rfl
  have s9 : clsSeenW q lo s = clsGoodW q lo := by unfold clsSeenW clsGoodW; rw [eWC]; rfl
  unfold openSeen openGood
  rw [s1, a4, s3, s4, s5, s6, s7, s8, s9]
theorem seen_of {α : Type _} {x : Option α} {f : α → Shared} {q : Program} {lo mods : List PySem.Str} {Xt : Shared → Bool} {R : List DefRec} {PL : List ClsRec} {LW LN CN : List PySem.Str} {WL : List (PySem.Str × WData)}
    (eR : recsOf q = R) (eP : plainsOf q (looseW q lo) = PL) (eC : (clssOf q (looseW q lo)).map (·.name) = CN) (eL : looseW q lo = LW) (eN : (litsOf q).map (·.1) = LN) (eD : drecsOf q = []) (eDC : dclssOf q lo = []) (eWD : wdefsOf q = []) (eWL : wlitsOf q = WL) (eWC : wclssOf q lo = [])
    (e : x.map (fun s => fSeen q R PL LW LN CN mods WL Xt (f s)) = some (fGood R PL)) : x.map (fun s => seenQ q lo mods Xt (f s)) = some (openGood q lo) := by
  cases x with
  | none => cases e
  | some y =>
    have e1 : fSeen q R PL LW LN CN mods WL Xt (f y) = fGood R PL := Option.some.inj e
    show some (seenQ q lo mods Xt (f y)) = _
    rw [← seenQ_eq, open_of eR eP eC eL eN eD eDC eWD eWL eWC e1]
end HeadCut
namespace HeadCut
open PySem PySem.W PyProof.Rows HeadRun
theorem fcut {α : Type _} {x : Option α} {f : α → Shared} {q : Program} {R : List DefRec} {PL : List ClsRec} {LW LN CN mods : List PySem.Str} {WL : List (PySem.Str × WData)} {Xt : Shared → Bool} (n : Nat)
    (r1 : x.map (fun s => (R.take n).map fun d => twSh (f s).heap mainGlobals d.name) = some ((R.take n).map shp)) (r2 : x.map (fun s => (R.drop n).map fun d => twSh (f s).heap mainGlobals d.name) = some ((R.drop n).map shp))
    (r3 : x.map (fun s => (PL.map (fun c => twPS (f s).heap c.withCmp), (f s).heap.bltView,
      ((twO q).all fun o => twOwn (f s).heap o.name o.chain o.bm o.newId && twQu (f s).heap o.name) && ((f s).heap.isNs mainGlobals && (f s).heap.isNs builtinsNs && (twNl (f s).heap && twNd (f s).heap)),
      (twK (f s).heap LW (R.map (·.name)) LN CN && twAc (f s).heap mods && twTb q (f s).heap && Xt (f s) && ((f s).gens.size == 0) && WL.all (twCn (f s).heap)))) = some (PL.map (fun c => (some c.withCmp.plainShape : Option PlainShape)), bltViewBooted, true, true))
    (r4 : x.map (fun s => (R.take n).all fun d => twT (f s).heap d.name) = some true) (r5 : x.map (fun s => ((R.drop n).all fun d => twT (f s).heap d.name) && (twBm (f s).heap && twV q (f s).heap && (!twIn q || twNs (f s).heap))) = some true) :
    x.map (fun s => fSeen q R PL LW LN CN mods WL Xt (f s)) = some (fGood R PL) := by
  cases x with
  | none => cases r1
  | some y =>
    have g1 : (R.take n).map (fun d => twSh (f y).heap mainGlobals d.name) = (R.take n).map shp := Option.some.inj r1
    have g2 : (R.drop n).map (fun d => twSh (f y).heap mainGlobals d.name) = (R.drop n).map shp := Option.some.inj r2
    have g3 := Option.some.inj r3
    have g4 : ((R.take n).all fun d => twT (f y).heap d.name) = true := Option.some.inj r4
    have g5 := Option.some.inj r5
    show some (fSeen q R PL LW LN CN mods WL Xt (f y)) = some (fGood R PL)
    simp only [Prod.mk.injEq] at g3
    obtain ⟨p1, p2, p3, p4⟩ := g3
    simp only [Bool.and_eq_true] at g5
    obtain ⟨t1, ⟨t2, t3⟩, t4⟩ := g5
    have m1 : R.map (fun d => twSh (f y).heap mainGlobals d.name) = R.map shp := by
      rw [← List.take_append_drop n R, List.map_append, List.map_append, g1, g2]
    have m2 : (R.all fun d => twT (f y).heap d.name) = true := by
      rw [← List.take_append_drop n R, List.all_append, g4, t1]
      rfl
    unfold fSeen fGood
    rw [m1, p1, p2, p3, p4, m2, t2, t3, t4]
    rfl
end HeadCut
set_option maxHeartbeats 0
namespace L00
open PySem PySem.W PySem.Calls PyProof.Rows HeadRun
noncomputable section
def qv : Program := { PySem.Challenge.pw_unwound_k00_errors with main := { (PySem.Challenge.pw_unwound_k00_errors).main with body := [1, 2, 3, 4, 5, 6, 7, 9, 10, 11, 12, 13, 14].filterMap fun i : Nat => (PySem.Challenge.pw_unwound_k00_errors).main.body[i]? } }
def lo : List PySem.Str := []
def LW : List PySem.Str := []
def CN : List PySem.Str := ["NoPlace", "BadLine", "CanNot", "TooMuch", "Unfit", "Ring", "Endless"]
def LN : List PySem.Str := []
def WL : List (PySem.Str × WData) := []
def recs : List DefRec := qv.main.body.filterMap HeadCut.fRec
def plains : List ClsRec := qv.main.body.filterMap HeadCut.fCls
abbrev rP : Program := (PySem.Challenge.rw_unwound_k00_errors).row.prog
abbrev theRun (w : World) (os : OsState) := endF (stepQ (denQ tabQ) rP w) 3358 rP w os
abbrev SS := SharedT
abbrev sT (x : SS) : Shared := x.abs
abbrev looks0 (w : World) (x : SS) : Bool := looksF rP (boot_heap w.params) x.abs
abbrev Xt (s : Shared) : Bool := xlAt qv [] s && recOk (RowW.records (OpenRow.toRowW (PySem.Challenge.rw_unwound_k00_errors).row)) s
end
end L00
namespace L00
open PySem PySem.W PySem.Calls PyProof.Rows HeadRun
theorem facts : (HeadCut.twR qv, HeadCut.twP qv (PySem.W.Fast.tw821141287760084731 qv lo), (PySem.W.Fast.tw13664370479719496447 qv (PySem.W.Fast.tw821141287760084731 qv lo)).map (·.name), PySem.W.Fast.tw821141287760084731 qv lo, (PySem.W.Fast.tw7409074990110511671 qv).map (·.1), PySem.W.Fast.tw3247288618530077131 qv, PySem.W.Fast.tw4354255287344443571 qv lo, PySem.W.Fast.tw694669760492028198 qv, PySem.W.Fast.tw11925523677476243305 qv, PySem.W.Fast.tw1571739515156823405 qv lo) = (recs, plains, CN, LW, LN, [], [], [], WL, []) := by kernel_rfl
theorem factsP : recsOf qv = recs ∧ plainsOf qv (looseW qv lo) = plains ∧ (clssOf qv (looseW qv lo)).map (·.name) = CN ∧ looseW qv lo = LW ∧ (litsOf qv).map (·.1) = LN ∧ drecsOf qv = [] ∧ dclssOf qv lo = [] ∧ wdefsOf qv = [] ∧ wlitsOf qv = WL ∧ wclssOf qv lo = [] := by
  have e := facts
  rw [← HeadCut.twR_eq, ← HeadCut.twP_eq, ← PySem.W.Fast.te821141287760084731, ← PySem.W.Fast.te13664370479719496447, ← PySem.W.Fast.te7409074990110511671, ← PySem.W.Fast.te3247288618530077131, ← PySem.W.Fast.te4354255287344443571, ← PySem.W.Fast.te694669760492028198, ← PySem.W.Fast.te11925523677476243305, ← PySem.W.Fast.te1571739515156823405] at e
  simp only [Prod.mk.injEq] at e
  exact e
end L00
namespace L00
open PySem PySem.W PySem.Calls PyProof.Rows HeadRun
theorem h0 (w : World) (os : OsState) : (theRun w os).map (looks0 w) = some true := by kernel_rfl
end L00
namespace L00
open PySem PySem.W PySem.Calls PyProof.Rows HeadRun
theorem hr1 (w : World) (os : OsState) : (theRun w os).map (fun x => (recs.take 4).map fun d => HeadCut.twSh (sT x).heap mainGlobals d.name) = some ((recs.take 4).map HeadCut.shp) := by kernel_rfl
end L00
namespace L00
open PySem PySem.W PySem.Calls PyProof.Rows HeadRun
theorem hr2 (w : World) (os : OsState) : (theRun w os).map (fun x => (recs.drop 4).map fun d => HeadCut.twSh (sT x).heap mainGlobals d.name) = some ((recs.drop 4).map HeadCut.shp) := by kernel_rfl
end L00
namespace L00
open PySem PySem.W PySem.Calls PyProof.Rows HeadRun
theorem hr3 (w : World) (os : OsState) : (theRun w os).map (fun x => (plains.map (fun c => HeadCut.twPS (sT x).heap c.withCmp), (sT x).heap.bltView, ((HeadCut.twO qv).all fun o => HeadCut.twOwn (sT x).heap o.name o.chain o.bm o.newId && HeadCut.twQu (sT x).heap o.name) && ((sT x).heap.isNs mainGlobals && (sT x).heap.isNs builtinsNs && (HeadCut.twNl (sT x).heap && HeadCut.twNd (sT x).heap)), (HeadCut.twK (sT x).heap LW (recs.map (·.name)) LN CN && HeadCut.twAc (sT x).heap (importedModules rP.main.body) && HeadCut.twTb qv (sT x).heap && Xt (sT x) && ((sT x).gens.size == 0) && WL.all (HeadCut.twCn (sT x).heap)))) = some (plains.map (fun c => (some c.withCmp.plainShape : Option PlainShape)), bltViewBooted, true, true) := by kernel_rfl
end L00
namespace L00
open PySem PySem.W PySem.Calls PyProof.Rows HeadRun
theorem hr4 (w : World) (os : OsState) : (theRun w os).map (fun x => (recs.take 4).all fun d => HeadCut.twT (sT x).heap d.name) = some (true) := by kernel_rfl
end L00
namespace L00
open PySem PySem.W PySem.Calls PyProof.Rows HeadRun
theorem hr5 (w : World) (os : OsState) : (theRun w os).map (fun x => ((recs.drop 4).all fun d => HeadCut.twT (sT x).heap d.name) && (HeadCut.twBm (sT x).heap && HeadCut.twV qv (sT x).heap && (!HeadCut.twIn qv || HeadCut.twNs (sT x).heap))) = some (true) := by kernel_rfl
end L00
namespace L00
open PySem PySem.W PySem.Calls PyProof.Rows HeadRun
theorem hsq {q : Program} (e : qv = q) (w : World) (os : OsState) : (theRun w os).map (fun x => seenQ q lo (importedModules rP.main.body) (fun s => xlAt q [] s && recOk (RowW.records (OpenRow.toRowW (PySem.Challenge.rw_unwound_k00_errors).row)) s) x.abs) = some (openGood q lo) := by
  subst e
  obtain ⟨e1, e2, e3, e4, e5, e6, e7, e8, e9, e10⟩ := factsP
  exact HeadCut.seen_of e1 e2 e3 e4 e5 e6 e7 e8 e9 e10 (HeadCut.fcut 4 (hr1 w os) (hr2 w os) (hr3 w os) (hr4 w os) (hr5 w os))
end L00
section
open PySem PySem.W PyProof.Rows
local macro_rules | `(tactic| kernel_rfl) => `(tactic| ((with_reducible refine HeadCut.cut3 ?_ ?_ ?_); (exact L00.h0 _ _); (exact L00.hsq (by kernel_rfl) _ _); (kernel_rfl)))
local macro_rules | `(tactic| k_head) => `(tactic| k_headL)
set_option maxRecDepth 100000 in
set_option maxHeartbeats 0 in
open_top L00.hd for PySem.Challenge.rw_unwound_k00_errors
end
set_option maxHeartbeats 2000000
set_option autoImplicit false
namespace EV
open PySem PySem.Spec PyProof.Rows L2
inductive Nk (K : PySem.W.Frag) (H : Hp) : NestedKey → V → Prop
  | non : Nk K H .none .non
  | bl (b : Bool) : Nk K H (.num (if b = true then 1 else 0)) (.bl b)
  | int (i : Int) : Nk K H (.num i) (.int i)
  | str (x : Str) : Nk K H (.text x) (.str x)
  | tup {a : Addr} {xs : List V} {ks : List NestedKey} : SqT K H a xs → ks.length = xs.length → (∀ (j : Nat) (k : NestedKey) (x : V), ks[j]? = some k → xs[j]? = some x → Nk K H k x) → Nk K H (.tup ks) (.ref a)
theorem all_nk {h : Heap} : ∀ {ks : List NestedKey} {us : List Value}, ks.length = us.length → (∀ (j : Nat) (k : NestedKey) (u : Value), ks[j]? = some k → us[j]? = some u → NestedIs h k u) → NestedAll h ks us
  | [], [], _, _ => .nil
  | k :: ks, u :: us, hl, f => .cons (f 0 k u rfl rfl) (all_nk (by simpa using hl) fun j k u h1 h2 => f (j + 1) k u (by simpa using h1) (by simpa using h2))
theorem Nk.is {X : Cx} {pins : List (Addr × Obj)} {σ : L2.St} {H : Hp} {s : Shared} (I : Inv X pins σ H s) {k : NestedKey} {v : V} (n : Nk X.K H k v) : ∀ u, RelV v u → NestedIs s.heap k u := by
  induction n with
  | non => intro u r; cases r; exact .none
  | bl b => intro u r; cases r; exact .bool rfl
  | int i => intro u r; obtain ⟨t, rfl⟩ := r; exact .int i t
  | str x => intro u r; obtain ⟨t, rfl⟩ := r; exact .text x t
  | @tup a xs ks hq hl f ih =>
    intro u r
    obtain rfl : u = Value.ref a := r
    obtain ⟨its, rv, ⟨o, e, hc, n, hd⟩, _⟩ := I.tuple hq
    refine .tup e hc hd (all_nk (by rw [List.toList_toArray, ← rv.length]; exact hl) fun j k w h1 h2 => ?_)
    have hj : j < xs.length := by rw [← hl]; exact (List.getElem?_eq_some_iff.mp h1).1
    obtain ⟨w', hw', rw'⟩ := rv.get (List.getElem?_eq_getElem hj)
    have : w' = w := by
      rw [List.toList_toArray] at h2
      rw [h2] at hw'
      exact (Option.some.inj hw').symm
    subst this
    exact ih j k xs[j] h1 (List.getElem?_eq_getElem hj) _ rw'
abbrev Dn := List (NestedKey × Addr × V)
def PR (p : NestedKey × Addr × V) (q : NestedKey × Addr × Value) : Prop := p.1 = q.1 ∧ p.2.1 = q.2.1 ∧ RelV p.2.2 q.2.2
def DnP (P : Program) (w : World) (a : Addr) (xs : Dn) (h : Heap) : Prop := xs.length ≤ sizeLine ∧ (a == sysModules) = false ∧ ∃ ys, Paired PR xs ys ∧ ∃ o es ep, h.get? a = some o ∧ o.ExactDict ∧ o.data = .dict es ep ∧ es.toList = ys.map (entryOfKey (nestedKind P w)) ∧ (ys.map (·.1)).Nodup
def dnO (P : Program) (w : World) (a : Addr) (xs : Dn) : HO := .ext (DnP P w a xs)
structure DnAt (P : Program) (w : World) (K : PySem.W.Frag) (H : Hp) (a : Addr) (xs : Dn) : Prop where
  obj : H a = some (dnO P w a xs) ∨ (xs = [] ∧ H a = some (.dK []))
  key : ∀ x ∈ xs, Nk K H x.1 (.ref x.2.1) ∧ x.1.depth ≤ 8
def atV (xs : Dn) (k : NestedKey) : Option (Addr × V) := (xs.find? fun x => decide (x.1 = k)).map (·.2)
def putV (xs : Dn) (k : NestedKey) (a : Addr) (v : V) : Dn := if (atV xs k).isSome then xs.map (fun x => if x.1 = k then (x.1, x.2.1, v) else x) else xs ++ [(k, a, v)]
section
variable {X : Cx} {pins : List (Addr × Obj)} {σ : L2.St} {H : Hp} {s : Shared} {a b : Addr} {xs : Dn} {k : NestedKey} {A : Around} {E : Value → Shared → Prop}
theorem dn_of (I : Inv X pins σ H s) (D : DnAt X.prog X.w X.K H a xs) : xs.length ≤ sizeLine ∧ (a == sysModules) = false ∧ ∃ ys, Paired PR xs ys ∧ s.heap.DictOfH (nestedKind X.prog X.w) a ys := by
  have keys : ∀ {ys : List (NestedKey × Addr × Value)}, Paired PR xs ys → ∀ y ∈ ys, (nestedKind X.prog X.w).is s.heap y.1 y.2.1 := by
    intro ys p y hy
    have key := D.key
    clear D
    induction p with
    | nil => cases hy
    | @cons x z xs zs h t ih =>
      rcases List.mem_cons.mp hy with rfl | hy
      · obtain ⟨k1, k2⟩ := key x (List.mem_cons_self ..)
        obtain ⟨h1, h2, _⟩ := h
        rw [← h1, ← h2]
        exact ⟨k1.is I _ rfl, k2⟩
      · exact ih hy fun x hx => key x (List.mem_cons_of_mem _ hx)
  rcases D.obj with e | ⟨rfl, e⟩
  · have z : ObjOk X.prog X.w H s.heap a (.ext (DnP X.prog X.w a xs)) := I.hok a _ e
    obtain ⟨z1, z2, ys, z3, o, es, ep, e1, e2, e3, e4, e5⟩ := z.1
    exact ⟨z1, z2, ys, z3, o, es, ep, e1, e2, e3, e4, keys z3, e5⟩
  · obtain ⟨z, hd, vs, rel, o, es, ep, e1, e2, e3, _, e5, _⟩ := dk_of I.hok e
    have hv : vs = [] := by
      have := rel.length
      cases vs with
      | nil => rfl
      | cons _ _ => simp at this
    subst hv
    have hes : es.toList = [] := by
      cases q : es.toList with
      | nil => rfl
      | cons y ys => rw [q] at e5; cases e5
    exact ⟨Nat.zero_le _, hd, [], .nil, o, es, ep, e1, e2, e3, by rw [hes]; rfl, fun x hx => (nomatch hx), List.nodup_nil⟩
end
end EV
namespace EV
open PySem PySem.Spec PyProof.Rows L2
def KeyAt (h : Heap) (k : NestedKey) (b : Addr) : Prop := NestedIs h k (.ref b) ∧ k.depth ≤ 8
section
variable {P : Program} {w : World}
def Clear (P : Program) (w : World) (n : Nat) (s : Shared) (v : Value) : Prop := ∀ (A : Around) (E : Value → Shared → Prop) (Q : Bool → Shared → Prop), Q false s → wpAny (model P w) A (ofAClassStatement n v) Q E s
def Told (P : Program) (w : World) (n : Nat) (s : Shared) (v : Value) : Prop := ∀ (A : Around) (E : Value → Shared → Prop) (Q : Bool → Shared → Prop), (∀ b, Q b s) → wpAny (model P w) A (hashByValue n v) Q E s
theorem Clear.tup {n : Nat} {s : Shared} {a : Addr} {o : Obj} {vs : Array Value} {m : Nat} (e : s.heap.get? a = some o) (c : o.cls = .type "tuple") (d : o.data = .seq vs m) (each : ∀ v ∈ vs.toList, Clear P w n s v) : Clear P w (n + 1) s (.ref a) := fun A E Q q => by
  unfold ofAClassStatement
  refine wpAny_bind (wpAny_typeOf (T := "tuple") ⟨o, e, c⟩ ?_)
  simp only [beq_self_eq_true, if_true]
  refine wpAny_bind (wpAny_pure ?_)
  simp only [Bool.not_true, Bool.false_eq_true, if_false]
  refine wpAny_bind (wpAny_seqItems e d (wpAny_bind ?_))
  show wpAny _ _ (forIn vs _ _) _ _ s
  rw [← Array.forIn_toList]
  refine wpAny_forIn_list _ (fun l r z => r.1 = none ∧ z = s ∧ ∀ v ∈ l, Clear P w n s v) _ (fun v l r z y => ?_) (fun r z y => ?_) _ _ ⟨rfl, rfl, each⟩
  · obtain ⟨e0, rfl, f⟩ := y
    refine wpAny_bind (f v (List.mem_cons_self ..) _ _ _ ?_)
    simp only [Bool.false_eq_true, if_false]
    exact wpAny_pure ⟨rfl, rfl, fun u m => f u (List.mem_cons_of_mem _ m)⟩
  · obtain ⟨r1, r2⟩ := r
    obtain ⟨e0, rfl, _⟩ := y
    cases e0
    exact wpAny_pure q
theorem Told.tup {n : Nat} {s : Shared} {a : Addr} {o : Obj} {vs : Array Value} {m : Nat} (e : s.heap.get? a = some o) (c : o.cls = .type "tuple") (d : o.data = .seq vs m) (each : ∀ v ∈ vs.toList, Told P w n s v) : Told P w (n + 1) s (.ref a) := fun A E Q q => by
  unfold hashByValue
  refine wpAny_bind (wpAny_specialOf (T := "tuple") ⟨o, e, c⟩ F.slot_tuple_hash.lookup ?_)
  show wpAny _ _ (seqItems? (.ref a) >>= _) _ _ s
  refine wpAny_bind (wpAny_seqItems e d (wpAny_bind ?_))
  show wpAny _ _ (forIn vs _ _) _ _ s
  rw [← Array.forIn_toList]
  refine wpAny_forIn_list _ (fun l r z => z = s ∧ ∀ v ∈ l, Told P w n s v) _ (fun v l r z y => ?_) (fun r z y => ?_) _ _ ⟨rfl, each⟩
  · obtain ⟨rfl, f⟩ := y
    refine wpAny_bind (f v (List.mem_cons_self ..) _ _ _ fun b => ?_)
    cases b with
    | true =>
      simp only [Bool.not_true, Bool.false_eq_true, if_false]
      exact wpAny_pure ⟨rfl, fun u m => f u (List.mem_cons_of_mem _ m)⟩
    | false =>
      simp only [Bool.not_false, if_true]
      exact wpAny_pure (wpAny_pure (q _))
  · obtain ⟨r1, r2⟩ := r
    obtain ⟨rfl, _⟩ := y
    cases r1 with
    | none => exact wpAny_pure (q _)
    | some b => exact wpAny_pure (q b)
theorem KeyAt.stay {h h' : Heap} {k : NestedKey} {b : Addr} (x : KeyAt h k b) (f : ∀ c o vs n, h.get? c = some o → o.data = .seq vs n → h'.get? c = some o) : KeyAt h' k b := ⟨x.1.at f, x.2⟩
end
end EV
set_option maxHeartbeats 4000000
namespace EV
open PySem PySem.Spec PyProof.Rows L2
abbrev Mem := List (NestedKey × Addr)
def rowK (w : World) (p : NestedKey × Addr) : Int × Value := (p.1.hash w, .ref p.2)
def hsK (w : World) (l : Mem) : List Int := l.map fun p => p.1.hash w
structure StN (w : World) (h : Heap) (a : Addr) (l : Mem) (es : Array (Int × Value)) (ep : Nat) (t : SetTable) : Prop where
  ob : ∃ o, h.get? a = some o ∧ o.ExactSet ∧ o.data = .set es ep t
  rows : es.toList = l.map (rowK w)
  tab : TabOk t (hsK w l)
  nd : (l.map (·.1)).Nodup
  led : w.params.followText "set-order" = true ∨ t.led = true
  room : l.length * 5 < t.mask * 3
  few : l.length < 64
section
variable {P : Program} {w : World} {A : Around} {E : Value → Shared → Prop} {s : Shared} {a : Addr} {l : Mem} {es : Array (Int × Value)} {ep : Nat} {t : SetTable} {h : Heap}
theorem StN.size (R : StN w h a l es ep t) : es.size = l.length := by
  rw [← Array.length_toList, R.rows, List.length_map]
theorem hsK_len (w : World) (l : Mem) : (hsK w l).length = l.length := List.length_map ..
theorem fits_of {t : SetTable} {l : Mem} {n : Nat} (T : TabOk t (hsK w l)) (r : l.length ≤ t.mask) (e : n = l.length) : t.fits n = true := by
  subst e
  have z := T.sz
  rw [hsK_len] at z
  unfold SetTable.fits SetTable.fill
  simp only [T.dm, z, beq_self_eq_true, Bool.true_and, decide_eq_true_eq]
  exact r
theorem StN.fits (R : StN w h a l es ep t) : t.fits es.size = true := fits_of R.tab (by have := R.room; omega) R.size
theorem StN.ent (R : StN w h a l es ep t) {i : Nat} {p : NestedKey × Addr} (e : l[i]? = some p) : es[i]? = some (rowK w p) := by
  rw [← Array.getElem?_toList, R.rows, List.getElem?_map, e]; rfl
end
end EV
namespace EV
open PySem PySem.Spec PyProof.Rows L2
section
variable {P : Program} {w : World} {A : Around} {E : Value → Shared → Prop} {s : Shared} {a : Addr} {l : Mem} {es : Array (Int × Value)} {ep : Nat} {t : SetTable} {h : Heap}
end
end EV
namespace EV
open PySem PySem.Spec PyProof.Rows L2
def newS (w : World) : Obj := { cls := .type "set", dict := none, data := .set #[] 0 (.fresh 0 0 (!w.params.followText "set-order")) }
section
variable {P : Program} {w : World} {A : Around} {E : Value → Shared → Prop} {s : Shared}
structure Fills (P : Program) (w : World) (A : Around) (S I : Addr) (n : Nat) (Pv : Nat → Value → Prop) (J : Nat → Heap → Prop) : Prop where
  stay : ∀ (i : Nat) (h h' : Heap), J i h → (∀ b o, b ≠ I → h.get? b = some o → h'.get? b = some o) → J i h'
  add : ∀ (i : Nat) (v : Value) (z : Shared) (E : Value → Shared → Prop) (Q : Bool → Shared → Prop), i < n → Pv i v → J i z.heap → (∀ c h' m, Heap.SameBut S z.heap h' → z.toks ≤ m → J (i + 1) h' → Q c { z with heap := h', toks := m }) → wpAny (model P w) A (setAdd S v) Q E z
end
end EV
namespace EV
open PySem PySem.Spec PyProof.Rows L2
def SnP (w : World) (a : Addr) (l : Mem) (h : Heap) : Prop := ∃ l' es ep t, l'.Perm l ∧ StN w h a l' es ep t
def snO (w : World) (a : Addr) (l : Mem) : HO := .ext (SnP w a l)
def MemK (K : PySem.W.Frag) (H : Hp) (l : Mem) : Prop := ∀ p ∈ l, Nk K H p.1 (.ref p.2) ∧ p.1.depth ≤ 8
def putM (l : Mem) (k : NestedKey) (b : Addr) : Mem := if k ∈ l.map (·.1) then l else l ++ [(k, b)]
theorem StN.at {w : World} {h h' : Heap} {a : Addr} {l : Mem} {es : Array (Int × Value)} {ep : Nat} {t : SetTable} (R : StN w h a l es ep t) (f : ∀ o, h.get? a = some o → h'.get? a = some o) : StN w h' a l es ep t :=
  ⟨let ⟨o, e, r⟩ := R.ob; ⟨o, f o e, r⟩, R.rows, R.tab, R.nd, R.led, R.room, R.few⟩
theorem SnP.at {w : World} {h h' : Heap} {a : Addr} {l : Mem} (x : SnP w a l h) (f : ∀ o, h.get? a = some o → h'.get? a = some o) : SnP w a l h' := by
  obtain ⟨l', es, ep, t, pm, R⟩ := x
  exact ⟨l', es, ep, t, pm, R.at f⟩
theorem SnP.ob {w : World} {h : Heap} {a : Addr} {l : Mem} (x : SnP w a l h) : ∃ o, h.get? a = some o := by
  obtain ⟨l', es, ep, t, pm, R⟩ := x
  obtain ⟨o, e, _⟩ := R.ob
  exact ⟨o, e⟩
theorem sn_ok {P : Program} {w : World} {H : Hp} {h : Heap} {a : Addr} {l : Mem} (x : SnP w a l h) : ObjOk P w H h a (snO w a l) := ⟨x, x.ob, fun h1 h2 y k => SnP.at y k⟩
theorem led_new (w : World) : w.params.followText "set-order" = true ∨ (!w.params.followText "set-order") = true := by
  cases w.params.followText "set-order" with
  | true => exact .inl rfl
  | false => exact .inr rfl
theorem StN.fresh {w : World} {h : Heap} {a : Addr} (e : h.get? a = some (newS w)) : StN w h a [] #[] 0 (.fresh 0 0 (!w.params.followText "set-order")) :=
  ⟨⟨newS w, e, ⟨rfl, rfl, rfl⟩, rfl⟩, rfl, ⟨.nil, rfl, rfl, .inl rfl, fun x m => (by cases m), fun i x j m => (by cases m)⟩, .nil, led_new w, by show 0 * 5 < 7 * 3; decide, by decide⟩
theorem SnP.fresh {w : World} {h : Heap} {a : Addr} (e : h.get? a = some (newS w)) : SnP w a [] h := ⟨[], _, _, _, .nil, .fresh e⟩
theorem SnP.none {w : World} {h : Heap} {a : Addr} (x : SnP w a [] h) : SetR w h a (fun _ => false) 0 := by
  obtain ⟨l', es, ep, t, pm, R⟩ := x
  obtain rfl := List.perm_nil.mp pm
  obtain ⟨o, e, ex, d⟩ := R.ob
  have hes : es.toList = [] := R.rows
  have hsz : es.size = 0 := R.size
  exact ⟨o, es, ep, t, e, ex, d, (by rw [hes]; exact fun e m => nomatch m), (by rw [hes]; exact .nil), (fun k => by rw [hes]; simp), (by rw [hsz]; decide), R.fits, hsz, R.tab.ris, R.led⟩
section
variable {X : Cx} {pins : List (Addr × Obj)} {σ : L2.St} {H : Hp} {s : Shared} {a b : Addr} {l : Mem} {k : NestedKey}
end
end EV
namespace EV
open PySem PySem.Spec PyProof.Rows L2
section
variable {P : Program} {w : World} {A : Around} {s : Shared}
end
section
variable {X : Cx}
end
end EV
namespace EV
open PySem PySem.Spec PyProof.Rows L2 PySem.W PySem.Calls
section
variable {prog : Program} {w : World} {A : Around} {E : Value → Shared → Prop} {s : Shared}
def hdB : PyData → Bool
  | .tuple (_ :: _) => true
  | _ => false
theorem lt_tup {Q : Value → Shared → Prop} {l b : Addr} {xs ys : Array Value} {e r : Nat → Bool} (hl : s.heap.IsTuple l xs) (hb : s.heap.IsTuple b ys) (he : ∀ j (h1 : j < xs.size) (h2 : j < ys.size), SeqAt.EqAt A.in1 s xs[j] ys[j] (e j))
    (hr : ∀ j (h1 : j < xs.size) (h2 : j < ys.size), e j = false → SeqAt.RcLt A.in1 s xs[j] ys[j] (r j)) (h : Q (.bool (SeqAt.firstLt e r (decide (xs.size < ys.size)) (List.range (min xs.size ys.size)))) s) :
    wpAny (model prog w) A (call (.builtin "tuple.__lt__") [.ref l, .ref b]) Q E s := by
  obtain ⟨⟨c1, d1, t1, s1⟩, ho, hc, n, hd⟩ := id hl
  obtain ⟨⟨c2, d2, t2, s2⟩, ho2, hc2, n2, hd2⟩ := id hb
  simp only at hc hd hc2 hd2
  subst hc hd hc2 hd2
  exact call_meets F.slot_tuple_lt ⟨_, ho, rfl⟩ F.entry_tuple_lt (F.args_tuple_lt_2 _ _) (SeqAt.tuple_ltAt l b xs ys n n2 d1 d2 s1 s2 e r) ⟨ho, ho2, he, hr, h⟩
theorem one_tup {xs ys : List PyData} {a b : Value} {as bs : List Addr} {Q : Bool → Shared → Prop} (ra : Reads s.heap a (.tuple xs) as) (rb : Reads s.heap b (.tuple ys) bs) (hal : alikeAll xs ys = true)
    (hu : A.units + min (PyData.depth (.tuple xs)) (PyData.depth (.tuple ys)) < cLine) (hq : Q (dataLt (.tuple xs) (.tuple ys)) s) : wpAny (model prog w) A (oneLt' true a b) Q E s := by
  cases ra with
  | @tuple l o vs n _ as₁ h1 h2 h3 h4 =>
    cases rb with
    | @tuple l' o' vs' n' _ bs₁ k1 k2 k3 k4 =>
      have n1 : vs.size = xs.length := by simpa using SeqAt.ReadsAll.length _ _ _ h4
      have n2 : vs'.size = ys.length := by simpa using SeqAt.ReadsAll.length _ _ _ k4
      rw [dataLt_tuple, ← firstLt_toks xs ys hal, ← n1, ← n2] at hq
      rw [oneLt'_eq]
      simp only [if_true]
      refine wpAny_bind (wpAny_cRoomFor (SeqAt.room_here hu) ?_)
      refine wpAny_bind (wpAny_callSpecialIfBound?_slot (T := "tuple") ⟨_, h1, h2⟩ F.slot_tuple_lt (lt_tup (e := SeqAt.pairEq xs ys) (r := fun j => dataLt (xs.getD j .none) (ys.getD j .none)) ⟨_, h1, h2, _, h3⟩ ⟨_, k1, k2, _, k3⟩ (fun j j1 j2 => ?_) (fun j j1 j2 hj => ?_) ?_))
      · have z := eqAt_alikeAll xs ys A.in1 s vs.toList vs'.toList _ _ h4 k4 hal (SeqAt.room_in hu) j (by simpa using j1) (by simpa using j2)
        simpa using z
      · have z := rcLt_alikeAll xs ys A.in1 s vs.toList vs'.toList _ _ h4 k4 hal (SeqAt.room_in hu) j (by simpa using j1) (by simpa using j2) hj
        simpa using z
      · exact wpAny_truthy_bool hq
theorem firsts_tup {M : Model} : ∀ {vs : List Value} {ds : List PyData} {Q : List (Option Value) → Shared → Prop}, EachIs (fun v d => ∃ as, Reads s.heap v d as) vs ds → (∀ d ∈ ds, ∃ xs, d = .tuple xs) → (∀ os : List (Option Value), os.map Option.isSome = ds.map hdB → Q os s) → wpAny M A (vs.mapM firstOfTuple') Q E s
  | _, _, _, .nil, _, h => by rw [List.mapM_nil]; exact wpAny_pure (h [] rfl)
  | v :: vs, d :: ds, Q, .cons ⟨as, r⟩ t, ht, h => by
    obtain ⟨xs, rfl⟩ := ht d (List.mem_cons_self ..)
    rw [List.mapM_cons]
    refine wpAny_bind ?_
    cases r with
    | @tuple l o items n _ _ h1 h2 h3 h4 =>
      rw [kas_first_eq]
      refine wpAny_bind (Looks.here (show Looks M s.heap (typeOf (.ref l)) o.cls from (Looks.ld h1).andThen .now) ?_)
      rw [h2, if_neg (by decide)]
      refine wpAny_bind (listItems_at h1 h3 (wpAny_pure ?_))
      refine wpAny_bind (firsts_tup t (fun d m => ht d (List.mem_cons_of_mem _ m)) fun os e => wpAny_pure (h _ ?_))
      have z : (items[0]?).isSome = hdB (.tuple xs) := by
        have sz : items.size = xs.length := by simpa using SeqAt.ReadsAll.length _ _ _ h4
        cases xs with
        | nil =>
          have : items[0]? = none := by
            rw [Array.getElem?_eq_none_iff, sz]; exact Nat.le_refl _
          rw [this]; rfl
        | cons x r =>
          have : items[0]? = some (items[0]'(by rw [sz]; exact Nat.succ_pos _)) := Array.getElem?_eq_getElem _
          rw [this]; rfl
      rw [List.map_cons, List.map_cons, z, e]
theorem kind_tup {M : Model} {v : Value} {vs : List Value} {d : PyData} {ds : List PyData} {Q : SortKind → Shared → Prop} (e : EachIs (fun v d => ∃ as, Reads s.heap v d as) (v :: vs) (d :: ds)) (ht : ∀ x ∈ d :: ds, ∃ xs, x = .tuple xs) (hn : (d :: ds).all hdB = false)
    (h : Q (bif hdB d then general' else oneType') s) : wpAny M A (keyKind' (v :: vs).toArray) Q E s := by
  rw [keyKind'_eq, List.mapM_toArray, map_eq_pure_bind]
  refine wpAny_bind (wpAny_bind (firsts_tup e ht fun os eo => wpAny_pure ?_))
  have z : (os.toArray.all fun x => x.isSome) = false := by
    rw [List.all_toArray]
    have q : (os.map Option.isSome).all id = ((d :: ds).map hdB).all id := by rw [eo]
    rw [List.all_map, List.all_map] at q
    exact q.trans hn
  rw [z, if_neg Bool.false_ne_true]
  cases os with
  | nil => cases eo
  | cons o os =>
    rw [List.map_cons, List.map_cons, List.cons.injEq] at eo
    have f : (((o :: os).toArray[0]?).bind id).isSome = hdB d := by
      rw [← eo.1]
      cases o <;> rfl
    rw [f]
    cases c : hdB d with
    | true =>
      rw [c, cond_true] at h
      rw [if_pos rfl]
      exact wpAny_pure h
    | false =>
      rw [c, cond_false] at h
      rw [if_neg Bool.false_ne_true, oneTypeOnly'_eq, List.mapM_toArray, map_eq_pure_bind]
      refine wpAny_bind (wpAny_bind (wpAny_bind (kas_mapM (r := .type "tuple") _ (fun u hu Q' hq => ?_) (wpAny_pure ?_))))
      · obtain ⟨d', hd', as, r⟩ := e.left u hu
        obtain ⟨xs, rfl⟩ := ht d' hd'
        exact (looks_reads r).here hq
      · have a1 : ((List.map (fun _ => Value.type "tuple") (v :: vs)).toArray.all fun x => x == Value.type "tuple") = true := by
          rw [List.all_toArray, List.all_map, List.all_eq_true]
          exact fun _ _ => rfl
        have a0 : (List.map (fun _ => Value.type "tuple") (v :: vs)).toArray[0]? = some (.type "tuple") := rfl
        rw [a0]
        simp only [a1, if_true]
        exact wpAny_pure (wpAny_pure h)
def SortsD (ds : List PyData) : Prop := W.Sortable ds ∨ ∀ d ∈ ds, ∃ xs, d = .tuple xs
theorem SortsD.at {vs : List Value} {ds : List PyData} (e : EachIs (fun v d => ∃ as, Reads s.heap v d as) vs ds) (hal : AllAlike ds) (hk : SortsD ds) (hu : ∀ d, d ∈ ds → A.units + d.depth < cLine) : SortsAt prog w A s (dataKind s.heap ds) vs := by
  rcases hk with hk | ht
  · exact SortsAt.data e hal hk hu
  cases hn : ds.all hdB with
  | true =>
    refine SortsAt.data e hal (.inl fun d hd => ?_) hu
    have z := List.all_eq_true.mp hn d hd
    obtain ⟨xs, rfl⟩ := ht d hd
    cases xs with
    | nil => cases z
    | cons x r => exact ⟨x, r, rfl⟩
  | false =>
    have room : ∀ {d d' : PyData}, d ∈ ds → A.units + min d.depth d'.depth < cLine := fun {d d'} hd => Nat.lt_of_le_of_lt (Nat.add_le_add_left (Nat.min_le_left _ _) _) (hu d hd)
    refine ⟨fun v hv => ?_, ?_⟩
    · obtain ⟨d, hd, as, r⟩ := e.left v hv
      exact ⟨_, dataKind_some hal hd r⟩
    · cases e with
      | nil => cases hn
      | @cons v d vs' ds' r t =>
        refine ⟨bif hdB d then general' else oneType', ?_, fun h2 E Q hq => kind_tup (.cons r t) ht hn hq⟩
        intro E x y a b Q ha hb hq
        obtain ⟨d1, as, hd, ra, rfl⟩ := dataKind_inv ha
        obtain ⟨d2, as', hd', rb, rfl⟩ := dataKind_inv hb
        have hdd := hal d1 hd d2 hd'
        have hroom := room (d' := d2) hd
        obtain ⟨xs, rfl⟩ := ht d1 hd
        obtain ⟨ys, rfl⟩ := ht d2 hd'
        cases hdB d with
        | true => exact oneLt_alike (f := false) (fun z => nomatch z) ra rb hdd (fun z => nomatch z) hroom hq
        | false =>
          rw [cond_false, keyLt'_oneType]
          exact one_tup ra rb (by simpa [alike] using hdd) hroom hq
variable {β : Type} {vs : List Value} {bs : List β} {enc : β → PyData} {R : Value → β → Prop}
end
end EV
namespace EV
open PySem PySem.Spec PyProof.Rows L2
def ins {α : Type} (le : α → α → Bool) (x : α) : List α → List α
  | [] => [x]
  | y :: r => bif le x y then x :: y :: r else y :: ins le x r
section
variable {α : Type} {le : α → α → Bool}
def chainL (lt : α → α → Bool) : List α → Bool
  | [] => true
  | [_] => true
  | x :: y :: r => lt x y && chainL lt (y :: r)
end
def leD {α : Type} (p q : α × PyData) : Bool := !W.dataLt q.2 p.2
def ltD {α : Type} (p q : α × PyData) : Bool := W.dataLt p.2 q.2
section
variable {X : Cx}
end
end EV
set_option maxHeartbeats 2000000
namespace EV
open PySem PySem.Spec PyProof.Rows L2
inductive W where
  | non | bl (b : Bool) | int (i : Int) | str (x : Str) | tup (ws : List W) | ref (n : Nat) | df (i : Nat) | clo (k : Nat) (ws : List W)
inductive Ob where
  | lst (ws : List W)
  | fz (ws : List W)
  | dk (kvs : List (Key × W))
  | dn (kvs : List (W × W))
  | st (ws : List W)
  | si (is : List Int)
  | ob (c : Nat) (fs : List (Str × W))
  | fd (kvs : List (Key × W))
  | fn (kvs : List (W × W))
  | pt (ws : List W)
  | er (c : Nat) (d : Option Nat)
  | xo
def Ob.plain : Ob → Bool
  | .lst _ => true
  | .fz _ => true
  | .dk _ => true
  | .ob _ _ => true
  | _ => false
inductive Tr where
  | lf | nd (o : Option Ob) (l r : Tr)
noncomputable def Tr.get (t : Tr) : Nat → Option Ob :=
  Tr.rec (motive := fun _ => Nat → Option Ob) (fun _ => none) (fun o _ _ gl gr n => bif Nat.beq n 0 then o else bif Nat.beq (n % 2) 1 then gl (n / 2) else gr (n / 2 - 1)) t
noncomputable def Tr.put (k : Nat) : Tr → Nat → Ob → Tr :=
  Nat.rec (motive := fun _ => Tr → Nat → Ob → Tr) (fun t _ _ => t) (fun _ put t n b => Tr.rec (motive := fun _ => Tr)
    (bif Nat.beq n 0 then .nd (some b) .lf .lf else bif Nat.beq (n % 2) 1 then .nd none (put .lf (n / 2) b) .lf else .nd none .lf (put .lf (n / 2 - 1) b))
    (fun o l r _ _ => bif Nat.beq n 0 then .nd (some b) l r else bif Nat.beq (n % 2) 1 then .nd o (put l (n / 2) b) r else .nd o l (put r (n / 2 - 1) b)) t) k
theorem Tr.get_l {n : Nat} : Tr.lf.get n = none := rfl
theorem Tr.get_n {o : Option Ob} {l r : Tr} {n : Nat} : (Tr.nd o l r).get n = bif Nat.beq n 0 then o else bif Nat.beq (n % 2) 1 then l.get (n / 2) else r.get (n / 2 - 1) := rfl
theorem Tr.put_l {k n : Nat} {b : Ob} : Tr.put (k + 1) .lf n b = bif Nat.beq n 0 then .nd (some b) .lf .lf else bif Nat.beq (n % 2) 1 then .nd none (Tr.put k .lf (n / 2) b) .lf else .nd none .lf (Tr.put k .lf (n / 2 - 1) b) := rfl
theorem Tr.put_n {k n : Nat} {b : Ob} {o : Option Ob} {l r : Tr} : Tr.put (k + 1) (.nd o l r) n b = bif Nat.beq n 0 then .nd (some b) l r else bif Nat.beq (n % 2) 1 then .nd o (Tr.put k l (n / 2) b) r else .nd o l (Tr.put k r (n / 2 - 1) b) := rfl
noncomputable def nthR {α : Type} (xs : List α) : Nat → Option α := List.rec (motive := fun _ => Nat → Option α) (fun _ => none) (fun x _ ih i => Nat.rec (motive := fun _ => Option α) (some x) (fun m _ => ih m) i) xs
theorem nthR_eq {α : Type} : ∀ (xs : List α) (i : Nat), nthR xs i = xs[i]?
  | [], _ => rfl
  | _ :: _, 0 => rfl
  | _ :: xs, i + 1 => (nthR_eq xs i).trans (by simp)
noncomputable def setR {α : Type} (xs : List α) (i : Nat) (w : α) : List α := List.rec (motive := fun _ => Nat → List α) (fun _ => []) (fun x xs ih i => Nat.rec (motive := fun _ => List α) (w :: xs) (fun m _ => x :: ih m) i) xs i
theorem setR_eq {α : Type} : ∀ (xs : List α) (i : Nat) (w : α), setR xs i w = xs.set i w
  | [], _, _ => rfl
  | _ :: _, 0, _ => rfl
  | x :: xs, i + 1, w => congrArg (x :: ·) (setR_eq xs i w)
theorem beq_t {a b : Nat} (h : a = b) : Nat.beq a b = true := by subst h; exact Nat.beq_refl a
theorem beq_f {a b : Nat} (h : a ≠ b) : Nat.beq a b = false := by
  cases e : Nat.beq a b with
  | false => rfl
  | true => exact absurd (Nat.eq_of_beq_eq_true e) h
theorem put_same : ∀ (k : Nat) (t : Tr) (n : Nat) (b : Ob), n + 1 < 2 ^ k → (Tr.put k t n b).get n = some b
  | 0, _, n, _, h => by simp at h
  | k + 1, t, n, b, h => by
    have h2 : 2 ^ (k + 1) = 2 ^ k * 2 := Nat.pow_succ ..
    by_cases c0 : n = 0
    · subst c0
      cases t <;> rfl
    · by_cases c1 : n % 2 = 1
      · have i := fun t => put_same k t (n / 2) b (by omega)
        cases t <;> simp only [Tr.put_l, Tr.put_n, beq_f c0, beq_t c1, cond_true, cond_false, Tr.get_l, Tr.get_n, i]
      · have i := fun t => put_same k t (n / 2 - 1) b (by omega)
        cases t <;> simp only [Tr.put_l, Tr.put_n, beq_f c0, beq_f c1, cond_true, cond_false, Tr.get_l, Tr.get_n, i]
theorem get_nd {o : Option Ob} {l r : Tr} {i : Nat} : (Tr.nd o l r).get i = if i = 0 then o else if i % 2 = 1 then l.get (i / 2) else r.get (i / 2 - 1) := by
  by_cases d0 : i = 0
  · subst d0; rfl
  · rw [if_neg d0]
    by_cases d1 : i % 2 = 1
    · rw [if_pos d1]; simp only [Tr.get_n, beq_f d0, beq_t d1, cond_true, cond_false]
    · rw [if_neg d1]; simp only [Tr.get_n, beq_f d0, beq_f d1, cond_true, cond_false]
theorem get_lf {i : Nat} : Tr.lf.get i = none := rfl
theorem put_ne : ∀ (k : Nat) (t : Tr) (n i : Nat) (b : Ob), i ≠ n → (Tr.put k t n b).get i = t.get i
  | 0, _, _, _, _, _ => rfl
  | k + 1, t, n, i, b, h => by
    by_cases c0 : n = 0
    · subst c0
      cases t <;> simp [Tr.put_l, Tr.put_n, get_nd, get_lf, h]
    · by_cases c1 : n % 2 = 1
      · have q : ∀ t, i % 2 = 1 → (Tr.put k t (n / 2) b).get (i / 2) = t.get (i / 2) := fun t z => put_ne k t _ _ b (by omega)
        cases t <;> simp only [Tr.put_l, Tr.put_n, beq_f c0, beq_t c1, cond_true, cond_false, get_nd, get_lf]
        · split
          · rfl
          · split
            · rename_i z; rw [q _ z]; rfl
            · rfl
        · split
          · rfl
          · split
            · rename_i z; rw [q _ z]
            · rfl
      · have q : ∀ t, i ≠ 0 → i % 2 ≠ 1 → (Tr.put k t (n / 2 - 1) b).get (i / 2 - 1) = t.get (i / 2 - 1) := fun t z1 z => put_ne k t _ _ b (by omega)
        cases t <;> simp only [Tr.put_l, Tr.put_n, beq_f c0, beq_f c1, cond_true, cond_false, get_nd, get_lf]
        · split
          · rfl
          · split
            · rfl
            · rename_i z1 z; rw [q _ z1 z]; rfl
        · split
          · rfl
          · split
            · rfl
            · rename_i z1 z; rw [q _ z1 z]
structure Hpe where
  nx : Nat
  t : Tr
  lk : List Nat
def Hpe.get (h : Hpe) (n : Nat) : Option Ob := h.t.get n
def Hpe.set (h : Hpe) (n : Nat) (o : Ob) : Hpe := ⟨h.nx, Tr.put 41 h.t n o, h.lk⟩
def Hpe.new (h : Hpe) (o : Ob) : Hpe := ⟨h.nx + 1, Tr.put 41 h.t h.nx o, h.lk⟩
def Hpe.ok (h : Hpe) : Bool := Nat.ble h.nx 1099511627776
def Hpe.nil : Hpe := ⟨0, .lf, []⟩
structure CTx where
  qual : Str
  scope : Scope
  body : FuncBody
  ps : List Str
  fr : List Str
structure GC where
  K : PySem.W.Frag
  dfs : Nat → Option Addr
  tabs : List Addr
  prog : Program
  wo : World
  ltabs : List Addr
  nm : Nat → Nat → Str
  tx : Nat → Option CTx
  cc : Nat → Option Addr
def mapO {α β : Type} (f : α → Option β) : List α → Option (List β)
  | [] => some []
  | x :: r => match f x with
    | none => none
    | some y => match mapO f r with
      | none => none
      | some ys => some (y :: ys)
def nkW : Nat → W → Option NestedKey
  | 0, _ => none
  | k + 1, w => match w with
    | .non => some .none
    | .bl b => some (.num (if b = true then 1 else 0))
    | .int i => some (.num i)
    | .str x => some (.text x)
    | .tup ws => match mapO (nkW k) ws with
      | none => none
      | some ks => some (.tup ks)
    | _ => none
mutual
inductive RW (G : GC) (m : Nat → Addr) (n : Nat) (H : Hp) : W → V → Prop
  | non : RW G m n H .non .non
  | bl (b : Bool) : RW G m n H (.bl b) (.bl b)
  | int (i : Int) : RW G m n H (.int i) (.int i)
  | str (x : Str) : RW G m n H (.str x) (.str x)
  | tup {a : Addr} {xs : List V} {ws : List W} : SqT G.K H a xs → RWs G m n H ws xs → RW G m n H (.tup ws) (.ref a)
  | ref (i : Nat) : i < n → RW G m n H (.ref i) (.ref (m i))
  | df {i : Nat} {f : Addr} : G.dfs i = some f → RW G m n H (.df i) (.ref f)
inductive RWs (G : GC) (m : Nat → Addr) (n : Nat) (H : Hp) : List W → List V → Prop
  | nil : RWs G m n H [] []
  | cons {w : W} {ws : List W} {v : V} {vs : List V} : RW G m n H w v → RWs G m n H ws vs → RWs G m n H (w :: ws) (v :: vs)
end
def erO (a C : Addr) (d : Option Addr) : HO := .ext fun h => ∃ oe : Obj, h.get? a = some oe ∧ oe.cls = .ref C ∧ oe.dict = d ∧ ∃ vs, oe.data = .fields vs
def dO (a : Addr) : HO := .ext fun h => ∃ o : Obj, h.get? a = some o
inductive RO (G : GC) (m : Nat → Addr) (n : Nat) (H : Hp) : Addr → Ob → HO → Prop
  | lst {a : Addr} {ws : List W} {xs : List V} : RWs G m n H ws xs → RO G m n H a (.lst ws) (.lst xs)
  | fz {a : Addr} {o : Obj} {ws : List W} {xs : List V} : RWs G m n H ws xs → RO G m n H a (.fz ws) (.frz o (.lst xs))
  | dk {a : Addr} {kvs : List (Key × W)} {kus : List (Key × V)} : kvs.map (·.1) = kus.map (·.1) → RWs G m n H (kvs.map (·.2)) (kus.map (·.2)) → RO G m n H a (.dk kvs) (.dK kus)
  | dn {a : Addr} {kvs : List (W × W)} {xs : Dn} : kvs.map (fun p => nkW 9 p.1) = xs.map (fun x => some x.1) → (∀ x ∈ xs, x.1.depth ≤ 8) → RWs G m n H (kvs.map (·.1)) (xs.map fun x => V.ref x.2.1) → RWs G m n H (kvs.map (·.2)) (xs.map (·.2.2)) → RO G m n H a (.dn kvs) (dnO G.prog G.wo a xs)
  | st {a : Addr} {ws : List W} {l : Mem} : ws.map (nkW 9) = l.map (fun x => some x.1) → (∀ x ∈ l, x.1.depth ≤ 8) → RWs G m n H ws (l.map fun x => V.ref x.2) → RO G m n H a (.st ws) (snO G.wo a l)
  | si {a : Addr} {is : List Int} : is.Nodup → RO G m n H a (.si is) (SetO G.wo a (fun k => is.contains k) is.length)
  | ob {a C dx : Addr} {c : Nat} {fs : List (Str × W)} {gs : List (Str × V)} : G.cc c = some C → fs.map (·.1) = gs.map (·.1) → RWs G m n H (fs.map (·.2)) (gs.map (·.2)) → RO G m n H a (.ob c fs) (.ins C dx gs)
  | fd {a : Addr} {o : Obj} {kvs : List (Key × W)} {kus : List (Key × V)} : kvs.map (·.1) = kus.map (·.1) → RWs G m n H (kvs.map (·.2)) (kus.map (·.2)) → RO G m n H a (.fd kvs) (.frz o (.dK kus))
  | fn {a : Addr} {o : Obj} {kvs : List (W × W)} {xs : Dn} : kvs.map (fun p => nkW 9 p.1) = xs.map (fun x => some x.1) → (∀ x ∈ xs, x.1.depth ≤ 8) → RWs G m n H (kvs.map (·.1)) (xs.map fun x => V.ref x.2.1) → RWs G m n H (kvs.map (·.2)) (xs.map (·.2.2)) → RO G m n H a (.fn kvs) (.frz o (dnO G.prog G.wo a xs))
  | pt {a : Addr} {o : Obj} {ws : List W} {xs : List V} : RWs G m n H ws xs → o.dict = none → RO G m n H a (.pt ws) (.frz o (.tup xs))
  | er0 {a C : Addr} {c : Nat} : G.cc c = some C → RO G m n H a (.er c none) (erO a C none)
  | er1 {a C : Addr} {c j : Nat} : G.cc c = some C → j < n → RO G m n H a (.er c (some j)) (erO a C (some (m j)))
  | xo {a : Addr} : RO G m n H a .xo (dO a)
def TabOk (H : Hp) (P : Addr) : Prop := ∃ ps : Array Value, H P = some (.tbl ps) ∧ TriplesOk ps.toList
def TabL (G : GC) (m : Nat → Addr) (n : Nat) (H : Hp) (P : Addr) : Prop := ∃ ps : Array Value, H P = some (.tbl ps) ∧ TriplesOk ps.toList ∧ ∀ (pos : Pos) (cv : Value), codeAmong pos ps.toList = some cv → ∃ c, cv = .ref c ∧ H c = some (LamX.CodeO c (G.nm pos.line pos.col)) ∧ ∀ i, i < n → m i ≠ c
theorem TabL.keep {G : GC} {m m' : Nat → Addr} {n n' : Nat} {H H' : Hp} {P : Addr} (t : TabL G m n H P) (kt : ∀ ps, H P = some (.tbl ps) → H' P = some (.tbl ps)) (kc : ∀ b q, H b = some (LamX.CodeO b q) → (∀ i, i < n → m i ≠ b) → H' b = some (LamX.CodeO b q) ∧ ∀ i, i < n' → m' i ≠ b) : TabL G m' n' H' P := by
  obtain ⟨ps, e, tr, h⟩ := t
  refine ⟨ps, kt _ e, tr, fun pos cv hc => ?_⟩
  obtain ⟨c, e1, e2, e3⟩ := h pos cv hc
  obtain ⟨a, b⟩ := kc c _ e2 e3
  exact ⟨c, e1, a, b⟩
structure RH (G : GC) (m : Nat → Addr) (h : Hpe) (H : Hp) : Prop where
  sz : h.nx ≤ 1099511627776
  inj : ∀ i j, i < h.nx → j < h.nx → m i = m j → i = j
  obj : ∀ i, i < h.nx → ∃ o ho, h.get i = some o ∧ H (m i) = some ho ∧ RO G m h.nx H (m i) o ho
  tab : ∀ P ∈ G.tabs, TabOk H P
  ltab : ∀ P ∈ G.ltabs, TabL G m h.nx H P
structure Mv (m : Nat → Addr) (n : Nat) (H : Hp) (m' : Nat → Addr) (n' : Nat) (H' : Hp) : Prop where
  le : n ≤ n'
  old : ∀ i, i < n → m' i = m i
  new : ∀ i, n ≤ i → i < n' → H (m' i) = none
  kp : ∀ b o, H b = some o → (∀ i, i < n → m i ≠ b) → H' b = some o ∨ ∃ ps qs, o = .tbl ps ∧ H' b = some (.tbl qs)
  kf : ∀ i, i < n → ∀ ob u, H (m i) = some (.frz ob u) → H' (m i) = some (.frz ob u)
section
variable {G : GC} {m m' m1 m2 : Nat → Addr} {n n' n1 n2 : Nat} {H H' H1 H2 : Hp} {h h' h1 h2 : Hpe}
theorem Mv.refl : Mv m n H m n H := ⟨Nat.le_refl _, fun _ _ => rfl, fun i a b => absurd a (by omega), fun b o e _ => .inl e, fun _ _ _ _ e => e⟩
theorem RO.notup {a : Addr} {o : Ob} {ho : HO} (r : RO G m n H a o ho) : (∀ xs, ho ≠ .tup xs) ∧ (∀ ob xs, ho = .frz ob (.tup xs) → True) ∧ ∀ ps, ho ≠ .tbl ps := by
  cases r with
  | dn _ _ _ _ => exact ⟨fun _ z => (by cases (show HO.ext _ = HO.tup _ from z)), fun _ _ _ => trivial, fun _ z => (by cases (show HO.ext _ = HO.tbl _ from z))⟩
  | st _ _ _ => exact ⟨fun _ z => (by cases (show HO.ext _ = HO.tup _ from z)), fun _ _ _ => trivial, fun _ z => (by cases (show HO.ext _ = HO.tbl _ from z))⟩
  | si _ => exact ⟨fun _ z => (by cases (show HO.ext _ = HO.tup _ from z)), fun _ _ _ => trivial, fun _ z => (by cases (show HO.ext _ = HO.tbl _ from z))⟩
  | fn _ _ _ _ => exact ⟨fun _ z => (nomatch z), fun _ _ _ => trivial, fun _ z => (nomatch z)⟩
  | er0 _ => exact ⟨fun _ z => (by cases (show HO.ext _ = HO.tup _ from z)), fun _ _ _ => trivial, fun _ z => (by cases (show HO.ext _ = HO.tbl _ from z))⟩
  | er1 _ _ => exact ⟨fun _ z => (by cases (show HO.ext _ = HO.tup _ from z)), fun _ _ _ => trivial, fun _ z => (by cases (show HO.ext _ = HO.tbl _ from z))⟩
  | xo => exact ⟨fun _ z => (by cases (show HO.ext _ = HO.tup _ from z)), fun _ _ _ => trivial, fun _ z => (by cases (show HO.ext _ = HO.tbl _ from z))⟩
  | _ => exact ⟨fun _ z => (nomatch z), fun _ _ _ => trivial, fun _ z => (nomatch z)⟩
theorem RH.ne_none (r : RH G m h H) {i : Nat} (hi : i < h.nx) : H (m i) ≠ none := by
  obtain ⟨o, ho, _, e, _⟩ := r.obj i hi
  rw [e]; exact fun z => by cases z
theorem Mv.stay (mv : Mv m n H m' n' H') {b : Addr} {o : HO} (e : H b = some o) (hb : ∀ i, i < n → m i ≠ b) (ht : ∀ ps, o ≠ .tbl ps) : H' b = some o := by
  rcases mv.kp b o e hb with q | ⟨ps, qs, q, _⟩
  · exact q
  · exact absurd q (ht ps)
theorem Mv.trans (a : Mv m n H m1 n1 H1) (r : ∀ i, i < n → H1 (m i) ≠ none) (b : Mv m1 n1 H1 m2 n2 H2) : Mv m n H m2 n2 H2 where
  le := Nat.le_trans a.le b.le
  old := fun i hi => (b.old i (Nat.lt_of_lt_of_le hi a.le)).trans (a.old i hi)
  new := fun i h1 h2 => by
    by_cases c : i < n1
    · rw [b.old i c]; exact a.new i h1 c
    · have q := b.new i (by omega) h2
      cases e : H (m2 i) with
      | none => rfl
      | some o =>
        by_cases own : ∃ j, j < n ∧ m j = m2 i
        · obtain ⟨j, hj, ej⟩ := own
          exact absurd (by rw [ej]; exact q) (r j hj)
        · rcases a.kp _ o e (fun j hj z => own ⟨j, hj, z⟩) with z | ⟨_, _, _, z⟩
          · rw [q] at z; cases z
          · rw [q] at z; cases z
  kp := fun x o e hx => by
    have nx1 : ∀ i, i < n1 → m1 i ≠ x := fun i hi z => by
      by_cases c : i < n
      · exact hx i c (by rw [← a.old i c]; exact z)
      · have q := a.new i (by omega) hi
        rw [z, e] at q; cases q
    rcases a.kp x o e hx with z | ⟨ps, qs, z1, z2⟩
    · exact b.kp x o z nx1
    · rcases b.kp x _ z2 nx1 with z | ⟨_, qs2, _, z⟩
      · exact .inr ⟨ps, qs, z1, z⟩
      · exact .inr ⟨ps, qs2, z1, z⟩
  kf := fun i hi ob u e => by
    have e1 := a.kf i hi ob u e
    rw [← a.old i hi] at e1
    have e2 := b.kf i (Nat.lt_of_lt_of_le hi a.le) ob u e1
    rwa [a.old i hi] at e2
theorem RH.mv_ne (r : RH G m1 h1 H1) (a : Mv m n H m1 h1.nx H1) : ∀ i, i < n → H1 (m i) ≠ none := fun i hi => by
  rw [← a.old i hi]; exact r.ne_none (Nat.lt_of_lt_of_le hi a.le)
def TupK (H H' : Hp) : Prop := ∀ a xs, Rd H a (.tup xs) → Rd H' a (.tup xs)
theorem Mv.tupk (r : RH G m h H) (mv : Mv m h.nx H m' n' H') : TupK H H' := fun a xs q => by
  rcases q with q | ⟨o, q⟩
  · refine .inl (mv.stay q (fun i hi z => ?_) (fun _ z => by cases z))
    obtain ⟨o, ho, _, e, ro⟩ := r.obj i hi
    rw [z, q] at e; cases e
    exact ro.notup.1 _ rfl
  · refine .inr ⟨o, ?_⟩
    by_cases own : ∃ i, i < h.nx ∧ m i = a
    · obtain ⟨i, hi, rfl⟩ := own
      exact mv.kf i hi _ _ q
    · exact mv.stay q (fun i hi z => own ⟨i, hi, z⟩) (fun _ z => by cases z)
theorem TupK.seq {K : PySem.W.Frag} (t : TupK H H') {a : Addr} {xs : List V} (q : SqT K H a xs) : SqT K H' a xs := q.imp (t a xs) id
theorem TupK.refl : TupK H H := fun _ _ q => q
theorem RW.mono {w : W} {v : V} (r : RW G m n H w v) (o : ∀ i, i < n → m' i = m i) (l : n ≤ n') (t : TupK H H') : RW G m' n' H' w v :=
  RW.rec (motive_1 := fun w v _ => RW G m' n' H' w v) (motive_2 := fun ws vs _ => RWs G m' n' H' ws vs) .non (fun b => .bl b) (fun i => .int i) (fun x => .str x) (fun a _ ih => .tup (t.seq a) ih)
    (fun i hi => by rw [← o i hi]; exact .ref i (Nat.lt_of_lt_of_le hi l)) (fun e => .df e) .nil (fun _ _ a b => .cons a b) r
theorem RWs.mono : ∀ {ws : List W} {vs : List V}, RWs G m n H ws vs → (∀ i, i < n → m' i = m i) → n ≤ n' → TupK H H' → RWs G m' n' H' ws vs
  | _, _, .nil, _, _, _ => .nil
  | _, _, .cons a b, o, l, t => .cons (a.mono o l t) (b.mono o l t)
theorem RO.mono {a : Addr} {o : Ob} {ho : HO} (r : RO G m n H a o ho) (q : ∀ i, i < n → m' i = m i) (l : n ≤ n') (t : TupK H H') : RO G m' n' H' a o ho := by
  cases r with
  | lst a => exact .lst (a.mono q l t)
  | fz a => exact .fz (a.mono q l t)
  | dk a b => exact .dk a (b.mono q l t)
  | dn a b c d => exact .dn a b (c.mono q l t) (d.mono q l t)
  | st a b c => exact .st a b (c.mono q l t)
  | si a => exact .si a
  | ob a b c => exact .ob a b (c.mono q l t)
  | fd a b => exact .fd a (b.mono q l t)
  | fn a b c d => exact .fn a b (c.mono q l t) (d.mono q l t)
  | pt a b => exact .pt (a.mono q l t) b
  | er0 a => exact .er0 a
  | er1 a b => rw [← q _ b]; exact .er1 a (Nat.lt_of_lt_of_le b l)
  | xo => exact .xo
theorem RO.any {a b : Addr} {o : Ob} {ho : HO} (r : RO G m n H a o ho) (hd : o.plain = true) : RO G m n H b o ho := by
  cases r with
  | lst a => exact .lst a
  | fz a => exact .fz a
  | dk a b => exact .dk a b
  | dn _ _ _ _ => cases hd
  | st _ _ _ => cases hd
  | si _ => cases hd
  | ob a b c => exact .ob a b c
  | fd _ _ => cases hd
  | fn _ _ _ _ => cases hd
  | pt _ _ => cases hd
  | er0 _ => cases hd
  | er1 _ _ => cases hd
  | xo => cases hd
theorem RWs.len : ∀ {ws : List W} {vs : List V}, RWs G m n H ws vs → ws.length = vs.length
  | _, _, .nil => rfl
  | _, _, .cons _ b => congrArg (· + 1) b.len
theorem RWs.app : ∀ {ws : List W} {vs : List V} {ws' : List W} {vs' : List V}, RWs G m n H ws vs → RWs G m n H ws' vs' → RWs G m n H (ws ++ ws') (vs ++ vs')
  | _, _, _, _, .nil, h => h
  | _, _, _, _, .cons a b, h => .cons a (b.app h)
theorem RWs.take : ∀ {ws : List W} {vs : List V} (k : Nat), RWs G m n H ws vs → RWs G m n H (ws.take k) (vs.take k)
  | _, _, 0, _ => by simpa using .nil
  | _, _, _ + 1, .nil => by simpa using .nil
  | _, _, k + 1, .cons a b => .cons a (b.take k)
theorem RWs.drop : ∀ {ws : List W} {vs : List V} (k : Nat), RWs G m n H ws vs → RWs G m n H (ws.drop k) (vs.drop k)
  | _, _, 0, r => r
  | _, _, _ + 1, .nil => by simpa using .nil
  | _, _, k + 1, .cons a b => b.drop k
theorem RWs.get : ∀ {ws : List W} {vs : List V} {i : Nat} {w : W}, RWs G m n H ws vs → ws[i]? = some w → ∃ v, vs[i]? = some v ∧ RW G m n H w v
  | _, _, _, _, .nil, e => by simp at e
  | _, _, 0, _, .cons a b, e => by simp at e; subst e; exact ⟨_, rfl, a⟩
  | _, _, i + 1, _, .cons a b, e => by
    obtain ⟨v, h1, h2⟩ := b.get (i := i) (by simpa using e)
    exact ⟨v, by simpa using h1, h2⟩
theorem RWs.set {w : W} {v : V} (q : RW G m n H w v) : ∀ {ws : List W} {vs : List V} (i : Nat), RWs G m n H ws vs → RWs G m n H (ws.set i w) (vs.set i v)
  | _, _, _, .nil => .nil
  | _, _, 0, .cons a b => .cons q b
  | _, _, i + 1, .cons a b => .cons a (b.set q i)
theorem RWs.rep {ws : List W} {vs : List V} (r : RWs G m n H ws vs) : ∀ k : Nat, RWs G m n H (List.replicate k ws).flatten (List.replicate k vs).flatten
  | 0 => .nil
  | k + 1 => by
    rw [List.replicate_succ, List.replicate_succ, List.flatten_cons, List.flatten_cons]
    exact r.app (r.rep k)
theorem RH.alloc (r : RH G m h H) (hk : h.ok = true) (hk' : h.nx < 1099511627776) {o : Ob} {ho : HO} {p : Addr} (ro : RO G m h.nx H p o ho) (hp : H p = none) :
    ∃ m', RH G m' (h.new o) (upd H p ho) ∧ Mv m h.nx H m' (h.new o).nx (upd H p ho) ∧ m' h.nx = p := by
  refine ⟨fun i => if i = h.nx then p else m i, ?_, ?_, if_pos rfl⟩
  · have old : ∀ i, i < h.nx → (fun i => if i = h.nx then p else m i) i = m i := fun i hi => if_neg (Nat.ne_of_lt hi)
    have tk : TupK H (upd H p ho) := fun a xs q => by
      rcases q with q | ⟨ob, q⟩
      · exact .inl (by rw [upd_ne (fun z : a = p => by rw [z, hp] at q; cases q)]; exact q)
      · exact .inr ⟨ob, by rw [upd_ne (fun z : a = p => by rw [z, hp] at q; cases q)]; exact q⟩
    refine ⟨hk', fun i j hi hj e => ?_, fun i hi => ?_, fun P hP => ?_, fun P hP => ?_⟩
    · have hi' : i < h.nx + 1 := hi
      have hj' : j < h.nx + 1 := hj
      by_cases c : i = h.nx
      · by_cases d : j = h.nx
        · omega
        · have e' : p = m j := by simpa [c, d] using e
          exact absurd hp (by rw [e']; exact r.ne_none (by omega))
      · by_cases d : j = h.nx
        · have e' : m i = p := by simpa [c, d] using e
          exact absurd hp (by rw [← e']; exact r.ne_none (by omega))
        · exact r.inj i j (by omega) (by omega) (by simpa [c, d] using e)
    · have hi' : i < h.nx + 1 := hi
      by_cases c : i = h.nx
      · subst c
        refine ⟨o, ho, put_same 41 h.t h.nx o (by omega), ?_, ?_⟩
        · simp only [if_true]
          exact upd_same
        · show RO G _ _ _ (if h.nx = h.nx then p else m h.nx) o ho
          rw [if_pos rfl]
          exact ro.mono old (Nat.le_succ _) tk
      · obtain ⟨o', ho', q1, q2, q3⟩ := r.obj i (by omega)
        refine ⟨o', ho', (put_ne 41 h.t h.nx i o c).trans q1, ?_, ?_⟩
        · simp only [if_neg c]
          rw [upd_ne (fun z : m i = p => by rw [z, hp] at q2; cases q2)]
          exact q2
        · show RO G _ _ _ (if i = h.nx then p else m i) o' ho'
          rw [if_neg c]
          exact q3.mono old (Nat.le_succ _) tk
    · obtain ⟨ps, e, t⟩ := r.tab P hP
      exact ⟨ps, by rw [upd_ne (fun z : P = p => by rw [z, hp] at e; cases e)]; exact e, t⟩
    · refine (r.ltab P hP).keep (fun ps e => by rw [upd_ne (fun z : P = p => by rw [z, hp] at e; cases e)]; exact e) fun b q e nb => ?_
      have ne : b ≠ p := fun z : b = p => by rw [z, hp] at e; cases e
      refine ⟨by rw [upd_ne ne]; exact e, fun i hi => ?_⟩
      have hi' : i < h.nx + 1 := hi
      by_cases c : i = h.nx
      · simp only [c, if_true]; exact ne.symm
      · simp only [if_neg c]; exact nb i (by omega)
  · refine ⟨Nat.le_succ _, fun i hi => if_neg (Nat.ne_of_lt hi), fun i h1 h2 => ?_, fun b ob e _ => .inl ?_, fun i hi ob u e => by rw [upd_ne (fun z : m i = p => by rw [z, hp] at e; cases e)]; exact e⟩
    · have : i = h.nx := by have h2' : i < h.nx + 1 := h2; omega
      rw [if_pos this]; exact hp
    · rw [upd_ne (fun z : b = p => by rw [z, hp] at e; cases e)]; exact e
theorem RH.store (r : RH G m h H) {i : Nat} (hi : i < h.nx) {o : Ob} {ho : HO} (ro : RO G m h.nx H (m i) o ho) (nf : ∀ ob u, H (m i) ≠ some (.frz ob u) := by intro _ _ z; simp_all) : RH G m (h.set i o) (upd H (m i) ho) ∧ Mv m h.nx H m (h.set i o).nx (upd H (m i) ho) := by
  have tk : TupK H (upd H (m i) ho) := fun a xs q => by
    obtain ⟨o0, ho0, _, e0, r0⟩ := r.obj i hi
    rcases q with q | ⟨ob, q⟩
    · exact .inl (by rw [upd_ne (fun z : a = m i => by rw [z, e0] at q; cases q; exact r0.notup.1 _ rfl)]; exact q)
    · exact .inr ⟨ob, by rw [upd_ne (fun z : a = m i => nf _ _ (by rw [← z]; exact q))]; exact q⟩
  refine ⟨⟨r.sz, r.inj, fun j hj => ?_, fun P hP => ?_, fun P hP => ?_⟩, Nat.le_refl _, fun _ _ => rfl, fun j a b => absurd a (Nat.not_le_of_lt b), fun b ob e hb => .inl ?_, fun j hj ob u e => by rw [upd_ne (fun z : m j = m i => nf ob u (by rw [← z]; exact e))]; exact e⟩
  · by_cases c : j = i
    · subst c
      have hsz := r.sz
      exact ⟨o, ho, put_same 41 h.t j o (by omega), upd_same, ro.mono (fun _ _ => rfl) (Nat.le_refl _) tk⟩
    · obtain ⟨o', ho', q1, q2, q3⟩ := r.obj j hj
      refine ⟨o', ho', (put_ne 41 h.t i j o c).trans q1, ?_, q3.mono (fun _ _ => rfl) (Nat.le_refl _) tk⟩
      rw [upd_ne (fun z : m j = m i => c (r.inj j i hj hi z))]; exact q2
  · obtain ⟨ps, e, t⟩ := r.tab P hP
    refine ⟨ps, ?_, t⟩
    rw [upd_ne]; · exact e
    intro z
    obtain ⟨o0, ho0, _, e0, r0⟩ := r.obj i hi
    rw [← z, e] at e0; cases e0
    exact r0.notup.2.2 _ rfl
  · obtain ⟨o0, ho0, _, e0, r0⟩ := r.obj i hi
    refine (r.ltab P hP).keep (fun ps e => ?_) fun b q e nb => ⟨by rw [upd_ne (fun z : b = m i => nb i hi z.symm)]; exact e, nb⟩
    rw [upd_ne]; · exact e
    intro z
    rw [← z, e] at e0; cases e0
    exact r0.notup.2.2 _ rfl
  · rw [upd_ne (fun z : b = m i => hb i hi z.symm)]; exact e
theorem RH.tupNew (r : RH G m h H) {p : Addr} {ho : HO} (hp : H p = none) : RH G m h (upd H p ho) ∧ Mv m h.nx H m h.nx (upd H p ho) := by
  have tk : TupK H (upd H p ho) := fun a xs q => by
    rcases q with q | ⟨ob, q⟩
    · exact .inl (by rw [upd_ne (fun z : a = p => by rw [z, hp] at q; cases q)]; exact q)
    · exact .inr ⟨ob, by rw [upd_ne (fun z : a = p => by rw [z, hp] at q; cases q)]; exact q⟩
  refine ⟨⟨r.sz, r.inj, fun j hj => ?_, fun P hP => ?_, fun P hP => ?_⟩, Nat.le_refl _, fun _ _ => rfl, fun j a b => absurd a (Nat.not_le_of_lt b), fun b ob e _ => .inl ?_, fun j hj ob u e => by rw [upd_ne (fun z : m j = p => by rw [z, hp] at e; cases e)]; exact e⟩
  · obtain ⟨o', ho', q1, q2, q3⟩ := r.obj j hj
    refine ⟨o', ho', q1, ?_, q3.mono (fun _ _ => rfl) (Nat.le_refl _) tk⟩
    rw [upd_ne (fun z : m j = p => by rw [z, hp] at q2; cases q2)]; exact q2
  · obtain ⟨ps, e, t⟩ := r.tab P hP
    exact ⟨ps, by rw [upd_ne (fun z : P = p => by rw [z, hp] at e; cases e)]; exact e, t⟩
  · exact (r.ltab P hP).keep (fun ps e => by rw [upd_ne (fun z : P = p => by rw [z, hp] at e; cases e)]; exact e) fun b q e nb => ⟨by rw [upd_ne (fun z : b = p => by rw [z, hp] at e; cases e)]; exact e, nb⟩
  · rw [upd_ne (fun z : b = p => by rw [z, hp] at e; cases e)]; exact e
end
end EV
namespace EV
open PySem PySem.Spec PyProof.Rows L2
structure Exc where
  cls : Nat
  fs : List (Str × W)
inductive Res (α : Type) where
  | ok (a : α) (h : Hpe)
  | ex (x : Exc) (h : Hpe)
  | no
def Res.bind {α β : Type} : Res α → (α → Hpe → Res β) → Res β
  | .ok a h, k => k a h
  | .ex x h, _ => .ex x h
  | .no, _ => .no
abbrev Rho := List (Option W)
abbrev FE := Rho → Hpe → Res W
abbrev FT := Rho → Hpe → Res Bool
abbrev FA := Rho → Hpe → Res (List W)
abbrev Cls := Nat → Option Value
def ExR (G : GC) (cl : Cls) (m : Nat → Addr) (n : Nat) (H : Hp) (x : Exc) (c : Value) (d : Option Addr) : Prop :=
  cl x.cls = some c ∧ ((x.fs = [] ∧ d = none) ∨ ∃ dx kus, d = some dx ∧ H dx = some (.xd kus) ∧ x.fs.map (·.1) = kus.map (·.1) ∧ RWs G m n H (x.fs.map (·.2)) (kus.map (·.2)))
theorem ExR.mono {G : GC} {cl : Cls} {m m' : Nat → Addr} {n n' : Nat} {H H' : Hp} {x : Exc} {c : Value} {d : Option Addr} (r : ExR G cl m n H x c d) (o : ∀ i, i < n → m' i = m i) (l : n ≤ n') (t : TupK H H')
    (k : ∀ dx kus, H dx = some (.xd kus) → H' dx = some (.xd kus)) : ExR G cl m' n' H' x c d := by
  obtain ⟨a, b⟩ := r
  refine ⟨a, ?_⟩
  rcases b with b | ⟨dx, kus, b1, b2, b3, b4⟩
  · exact .inl b
  · exact .inr ⟨dx, kus, b1, k _ _ b2, b3, b4.mono o l t⟩
abbrev CF := Nat → Addr → List V → Prop
mutual
inductive RC (G : GC) (cf : CF) (m : Nat → Addr) (n : Nat) (H : Hp) : W → V → Prop
  | rw {w : W} {v : V} : RW G m n H w v → RC G cf m n H w v
  | clo {k : Nat} {ws : List W} {f : Addr} {vs : List V} : cf k f vs → RCs G cf m n H ws vs → RC G cf m n H (.clo k ws) (.ref f)
inductive RCs (G : GC) (cf : CF) (m : Nat → Addr) (n : Nat) (H : Hp) : List W → List V → Prop
  | nil : RCs G cf m n H [] []
  | cons {w : W} {ws : List W} {v : V} {vs : List V} : RC G cf m n H w v → RCs G cf m n H ws vs → RCs G cf m n H (w :: ws) (v :: vs)
end
section
variable {G : GC} {cf cf' : CF} {m m' : Nat → Addr} {n n' : Nat} {H H' : Hp}
theorem RC.map {w : W} {v : V} (r : RC G cf m n H w v) (o : ∀ i, i < n → m' i = m i) (l : n ≤ n') (t : TupK H H') (c : ∀ k f vs, cf k f vs → cf' k f vs) : RC G cf' m' n' H' w v :=
  RC.rec (motive_1 := fun w v _ => RC G cf' m' n' H' w v) (motive_2 := fun ws vs _ => RCs G cf' m' n' H' ws vs) (fun a => .rw (a.mono o l t)) (fun a _ ih => .clo (c _ _ _ a) ih) .nil (fun _ _ a b => .cons a b) r
theorem RCs.map : ∀ {ws : List W} {vs : List V}, RCs G cf m n H ws vs → (∀ i, i < n → m' i = m i) → n ≤ n' → TupK H H' → (∀ k f vs, cf k f vs → cf' k f vs) → RCs G cf' m' n' H' ws vs
  | _, _, .nil, _, _, _, _ => .nil
  | _, _, .cons a b, o, l, t, c => .cons (a.map o l t c) (b.map o l t c)
theorem RC.mono {w : W} {v : V} (r : RC G cf m n H w v) (o : ∀ i, i < n → m' i = m i) (l : n ≤ n') (t : TupK H H') : RC G cf m' n' H' w v := r.map o l t fun _ _ _ h => h
theorem RCs.of {ws : List W} {vs : List V} : RWs G m n H ws vs → RCs G cf m n H ws vs
  | .nil => .nil
  | .cons a b => .cons (.rw a) (RCs.of b)
theorem RCs.len : ∀ {ws : List W} {vs : List V}, RCs G cf m n H ws vs → ws.length = vs.length
  | _, _, .nil => rfl
  | _, _, .cons _ b => congrArg (· + 1) b.len
theorem RCs.app : ∀ {ws : List W} {vs : List V} {ws' : List W} {vs' : List V}, RCs G cf m n H ws vs → RCs G cf m n H ws' vs' → RCs G cf m n H (ws ++ ws') (vs ++ vs')
  | _, _, _, _, .nil, h => h
  | _, _, _, _, .cons a b, h => .cons a (b.app h)
theorem RCs.get : ∀ {ws : List W} {vs : List V} {i : Nat} {w : W}, RCs G cf m n H ws vs → ws[i]? = some w → ∃ v, vs[i]? = some v ∧ RC G cf m n H w v
  | _, _, _, _, .nil, e => by simp at e
  | _, _, 0, _, .cons a b, e => by simp at e; subst e; exact ⟨_, rfl, a⟩
  | _, _, i + 1, _, .cons a b, e => by
    obtain ⟨v, h1, h2⟩ := b.get (i := i) (by simpa using e)
    exact ⟨v, by simpa using h1, h2⟩
def noClo : W → Bool
  | .clo _ _ => false
  | _ => true
theorem RC.rw_of {w : W} {v : V} (r : RC G cf m n H w v) (h : noClo w = true) : RW G m n H w v := by
  cases r with
  | rw a => exact a
  | clo _ _ => cases h
end
structure SS (G : GC) (cf : CF) (m : Nat → Addr) (h : Hpe) (ρ : Rho) (σ : L2.St) (H : Hp) : Prop where
  rh : RH G m h H
  len : ρ.length = σ.length
  sl : ∀ (i : Nat) (w : W), ρ[i]? = some (some w) → ∃ v, σ[i]? = some (some v) ∧ RC G cf m h.nx H w v
def Out {α β : Type} (G : GC) (cl : Cls) (R : (Nat → Addr) → Nat → Hp → α → β → Prop) (Wx : Value → Option Addr → Hp → Prop) (m : Nat → Addr) (h : Hpe) (H : Hp) : Res α → (β → Hp → Prop) → Prop
  | .ok a h', Q => ∀ m' H' v, RH G m' h' H' → Mv m h.nx H m' h'.nx H' → R m' h'.nx H' a v → Q v H'
  | .ex x h', _ => ∀ m' H' c d, RH G m' h' H' → Mv m h.nx H m' h'.nx H' → ExR G cl m' h'.nx H' x c d → Wx c d H'
  | .no, _ => False
abbrev RB : (Nat → Addr) → Nat → Hp → Bool → Bool → Prop := fun _ _ _ a b => a = b
section
variable {α β γ δ : Type} {G : GC} {cl : Cls} {R : (Nat → Addr) → Nat → Hp → α → β → Prop} {R' : (Nat → Addr) → Nat → Hp → γ → δ → Prop} {Wx : Value → Option Addr → Hp → Prop} {m m1 : Nat → Addr} {h h1 : Hpe} {H H1 : Hp}
theorem Out.mono {r : Res α} {Q Q' : β → Hp → Prop} (o : Out G cl R Wx m h H r Q) (f : ∀ v H', Q v H' → Q' v H') : Out G cl R Wx m h H r Q' := by
  cases r with
  | ok a h' => exact fun m' H' v a b c => f _ _ (o m' H' v a b c)
  | ex x h' => exact o
  | no => exact o
theorem Out.shift {r : Res α} {Q : β → Hp → Prop} (rh : RH G m h H) (rh1 : RH G m1 h1 H1) (mv : Mv m h.nx H m1 h1.nx H1) (o : Out G cl R Wx m h H r Q) : Out G cl R Wx m1 h1 H1 r Q := by
  cases r with
  | ok a h' => exact fun m' H' v a b c => o m' H' v a (mv.trans (rh1.mv_ne mv) b) c
  | ex x h' => exact fun m' H' c d a b e => o m' H' c d a (mv.trans (rh1.mv_ne mv) b) e
  | no => exact o
theorem Out.bind {r : Res α} {k : α → Hpe → Res γ} {Q : δ → Hp → Prop} (rh : RH G m h H) (o : Out G cl R' Wx m h H (r.bind k) Q) :
    Out G cl R Wx m h H r fun v H1 => ∃ a m1 h1, RH G m1 h1 H1 ∧ Mv m h.nx H m1 h1.nx H1 ∧ R m1 h1.nx H1 a v ∧ Out G cl R' Wx m1 h1 H1 (k a h1) Q := by
  cases r with
  | ok a h' => exact fun m' H' v a' b c => ⟨a, m', h', a', b, c, Out.shift rh a' b o⟩
  | ex x h' => exact o
  | no => exact o
end
section
variable {G : GC} {cf : CF} {m m1 : Nat → Addr} {h h1 : Hpe} {H H1 : Hp} {ρ : Rho} {σ : L2.St}
theorem SS.mv (s : SS G cf m h ρ σ H) (rh : RH G m1 h1 H1) (mv : Mv m h.nx H m1 h1.nx H1) : SS G cf m1 h1 ρ σ H1 :=
  ⟨rh, s.len, fun i w e => let ⟨v, e1, r⟩ := s.sl i w e; ⟨v, e1, r.mono mv.old mv.le (mv.tupk s.rh)⟩⟩
end
def tE (G : GC) (cf : CF) (cl : Cls) (Wx : WX) (f : FE) : TE := fun σ H Q => ∃ m h ρ, SS G cf m h ρ σ H ∧ Out G cl (RW G) (fun c d H' => Wx c d σ H') m h H (f ρ h) Q
def tT (G : GC) (cf : CF) (cl : Cls) (Wx : WX) (f : FT) : TT := fun σ H Q => ∃ m h ρ, SS G cf m h ρ σ H ∧ Out G cl RB (fun c d H' => Wx c d σ H') m h H (f ρ h) Q
def tA (G : GC) (cf : CF) (cl : Cls) (Wx : WX) (f : FA) : TA := fun σ H Q => ∃ m h ρ, SS G cf m h ρ σ H ∧ Out G cl (RWs G) (fun c d H' => Wx c d σ H') m h H (f ρ h) Q
structure Bx where
  G : GC
  cl : Cls
  W : WX
  cf : CF
def SE (X : Cx) (B : Bx) (e : Expr) (f : FE) : Prop := PE X e (tE B.G B.cf B.cl B.W f)
def ST (X : Cx) (B : Bx) (e : Expr) (f : FT) : Prop := PT X e (tT B.G B.cf B.cl B.W f)
def SW (X : Cx) (B : Bx) (e : Expr) (f : FT) : Prop := PW X e (tT B.G B.cf B.cl B.W f)
def SA (X : Cx) (B : Bx) (es : List Expr) (f : FA) : Prop := PA X es (tA B.G B.cf B.cl B.W f)
theorem pe_imp {X : Cx} {e : Expr} {t t' : TE} (h : PE X e t) (i : ∀ σ H Q, t' σ H Q → t σ H Q) : PE X e t' := ⟨fun pins s σ H Q I q => h.run pins s σ H Q I (i σ H Q q)⟩
theorem pt_imp {X : Cx} {e : Expr} {t t' : TT} (h : PT X e t) (i : ∀ σ H Q, t' σ H Q → t σ H Q) : PT X e t' := ⟨fun pins s σ H Q I q => h.run pins s σ H Q I (i σ H Q q)⟩
theorem pw_imp {X : Cx} {e : Expr} {t t' : TT} (h : PW X e t) (i : ∀ σ H Q, t' σ H Q → t σ H Q) : PW X e t' := ⟨fun wh pins s σ H Q I q => h.run wh pins s σ H Q I (i σ H Q q)⟩
theorem pa_imp {X : Cx} {e : List Expr} {t t' : TA} (h : PA X e t) (i : ∀ σ H Q, t' σ H Q → t σ H Q) : PA X e t' := ⟨fun pos pins s σ H Q I q => h.run pos pins s σ H Q I (i σ H Q q)⟩
section
variable {X : Cx} {B : Bx} {a b c e : Expr} {es : List Expr} {fa fb fc f : FE} {ft : FT} {fs : FA} {pos p : Pos} {j : Nat}
def eV (i : Nat) : FE := fun ρ h => match nthR ρ i with
  | some (some w) => bif noClo w then .ok w h else .no
  | _ => .no
def eK (w : W) : FE := fun _ h => .ok w h
theorem se_v (i : Nat) {x : Str} (hN : X.N[i]? = some x) (hv : Vis X.env.scope x) (hd : (x == ("__debug__" : Str)) = false) (hcd : (x == ("__classdict__" : Str)) = false) : SE X B (.Name x pos) (eV i) :=
  pe_imp (pe_var hN hv hd hcd) fun σ H Q ⟨m, h, ρ, s, o⟩ => by
    simp only [eV, nthR_eq] at o
    split at o
    · rename_i w e
      obtain ⟨v, e1, r⟩ := s.sl i w e
      cases c : noClo w with
      | false => rw [c] at o; exact o.elim
      | true => rw [c] at o; exact ⟨v, e1, o m H v s.rh Mv.refl (r.rw_of c)⟩
    · exact o.elim
theorem se_c {w : W} {v : V} (h : PE X e (L2.tC v)) (r : ∀ m n H, RW B.G m n H w v) : SE X B e (eK w) :=
  pe_imp h fun σ H Q ⟨m, h, ρ, s, o⟩ => o m H v s.rh Mv.refl (r _ _ _)
theorem se_int {i : Int} : SE X B (.Constant (.int i) j pos) (eK (.int i)) := se_c pe_int fun _ _ _ => .int i
theorem se_bl {i : Bool} : SE X B (.Constant (.bool i) j pos) (eK (.bl i)) := se_c pe_bl fun _ _ _ => .bl i
theorem se_non : SE X B (.Constant .none j pos) (eK .non) := se_c pe_non fun _ _ _ => .non
theorem se_str {x : Str} : SE X B (.Constant (.str x) j pos) (eK (.str x)) := se_c pe_str fun _ _ _ => .str x
def aN : FA := fun _ h => .ok [] h
def aC (f : FE) (fs : FA) : FA := fun ρ h => (f ρ h).bind fun w h1 => (fs ρ h1).bind fun ws h2 => .ok (w :: ws) h2
theorem sa_nil : SA X B [] aN := pa_imp pa_nil fun σ H Q ⟨m, h, ρ, s, o⟩ => o m H [] s.rh Mv.refl .nil
theorem sa_cons (ha : SE X B e f) (hr : SA X B es fs) (hs : starEach (e :: es) X.env = (false, eval e X.env) :: starEach es X.env) : SA X B (e :: es) (aC f fs) :=
  pa_imp (pa_cons ha hr hs) fun σ H Q ⟨m, h, ρ, s, o⟩ => ⟨m, h, ρ, s, (Out.bind s.rh o).mono fun v H1 ⟨w, m1, h1, r1, v1, q1, o1⟩ =>
    ⟨m1, h1, ρ, s.mv r1 v1, (Out.bind r1 o1).mono fun vs H2 ⟨ws, m2, h2, r2, v2, q2, o2⟩ => o2 m2 H2 _ r2 Mv.refl (.cons (q1.mono v2.old v2.le (v2.tupk r1)) q2)⟩⟩
def Hpe.al (h : Hpe) (o : Ob) : Res W := bif Nat.blt h.nx 1099511627776 then .ok (.ref h.nx) (h.new o) else .no
def line (n : Nat) : Bool := Nat.ble n 100000
theorem line_le {n : Nat} (h : line n = true) : n ≤ sizeLine := Nat.le_trans (Nat.le_of_ble_eq_true h) (by decide)
theorem al_ok {G : GC} {cl : Cls} {Wx : Value → Option Addr → Hp → Prop} {m : Nat → Addr} {h : Hpe} {H : Hp} {o : Ob} {ho : HO} {Q : VK} (rh : RH G m h H) (out : Out G cl (RW G) Wx m h H (h.al o) Q) (ro : RO G m h.nx H 0 o ho) (hnd : o.plain = true := by rfl) : ∀ p, H p = none → Q (.ref p) (upd H p ho) := by
  intro p hp
  unfold Hpe.al at out
  cases c : Nat.blt h.nx 1099511627776 with
  | false => rw [c] at out; exact out.elim
  | true =>
    rw [c] at out
    have lt : h.nx < 1099511627776 := Nat.le_of_ble_eq_true c
    obtain ⟨m', r', v', rfl⟩ := rh.alloc (by unfold Hpe.ok; exact Nat.ble_eq_true_of_le rh.sz) lt (ro.any hnd) hp
    exact out m' _ _ r' v' (.ref h.nx (Nat.lt_succ_self _))
theorem al_okA {G : GC} {cl : Cls} {Wx : Value → Option Addr → Hp → Prop} {m : Nat → Addr} {h : Hpe} {H : Hp} {o : Ob} {ho : Addr → HO} {Q : VK} (rh : RH G m h H) (out : Out G cl (RW G) Wx m h H (h.al o) Q) (ro : ∀ p, RO G m h.nx H p o (ho p)) : ∀ p, H p = none → Q (.ref p) (upd H p (ho p)) := by
  intro p hp
  unfold Hpe.al at out
  cases c : Nat.blt h.nx 1099511627776 with
  | false => rw [c] at out; exact out.elim
  | true =>
    rw [c] at out
    have lt : h.nx < 1099511627776 := Nat.le_of_ble_eq_true c
    obtain ⟨m', r', v', rfl⟩ := rh.alloc (by unfold Hpe.ok; exact Nat.ble_eq_true_of_le rh.sz) lt (ro p) hp
    exact out m' _ _ r' v' (.ref h.nx (Nat.lt_succ_self _))
def eTup (fs : FA) : FE := fun ρ h => (fs ρ h).bind fun ws h1 => bif line ws.length then .ok (.tup ws) h1 else .no
def eLst (fs : FA) : FE := fun ρ h => (fs ρ h).bind fun ws h1 => bif line ws.length then h1.al (.lst ws) else .no
theorem tup_ok {G : GC} {cl : Cls} {Wx : Value → Option Addr → Hp → Prop} {m : Nat → Addr} {h : Hpe} {H : Hp} {ws : List W} {vs : List V} {Q : VK} (rh : RH G m h H) (out : Out G cl (RW G) Wx m h H (.ok (.tup ws) h) Q) (r : RWs G m h.nx H ws vs) : ∀ p, H p = none → Q (.ref p) (upd H p (.tup vs)) := by
  intro p hp
  obtain ⟨r', v'⟩ := rh.tupNew (ho := .tup vs) hp
  exact out m _ _ r' v' (.tup (SqT.of upd_same) (r.mono (fun _ _ => rfl) (Nat.le_refl _) (v'.tupk rh)))
theorem se_tup {x1} (h : SA X B es fs) : SE X B (.Tuple es x1 pos) (eTup fs) :=
  pe_imp (pe_tup h) fun σ H Q ⟨m, h, ρ, s, o⟩ => ⟨m, h, ρ, s, (Out.bind s.rh o).mono fun vs H1 ⟨ws, m1, h1, r1, v1, q1, o1⟩ => by
    cases c : line ws.length with
    | false => rw [c] at o1; exact o1.elim
    | true => rw [c] at o1; exact ⟨by rw [← q1.len]; exact line_le c, tup_ok r1 o1 q1⟩⟩
theorem se_lst (h : SA X B es fs) : SE X B (.List es pos) (eLst fs) :=
  pe_imp (pe_lst h) fun σ H Q ⟨m, h, ρ, s, o⟩ => ⟨m, h, ρ, s, (Out.bind s.rh o).mono fun vs H1 ⟨ws, m1, h1, r1, v1, q1, o1⟩ => by
    cases c : line ws.length with
    | false => rw [c] at o1; exact o1.elim
    | true => rw [c] at o1; exact ⟨by rw [← q1.len]; exact line_le c, al_ok r1 o1 (.lst q1)⟩⟩
def OpS (G : GC) (r : R2) (g : W → W → Hpe → Res W) : Prop := ∀ (cl : Cls) (Wx : Value → Option Addr → Hp → Prop) (m : Nat → Addr) (h : Hpe) (H : Hp) (a b : W) (x y : V) (Q : VK), RH G m h H → RW G m h.nx H a x → RW G m h.nx H b y →
  Out G cl (RW G) Wx m h H (g a b h) Q → r x y H Q
def e2 (g : W → W → Hpe → Res W) (fa fb : FE) : FE := fun ρ h => (fa ρ h).bind fun a h1 => (fb ρ h1).bind fun b h2 => g a b h2
theorem op2 {r : R2} {g : W → W → Hpe → Res W} (hop : OpS B.G r g) : ∀ σ H Q, tE B.G B.cf B.cl B.W (e2 g fa fb) σ H Q → tOp r (tE B.G B.cf B.cl B.W fa) (tE B.G B.cf B.cl B.W fb) σ H Q :=
  fun σ H Q ⟨m, h, ρ, s, o⟩ => ⟨m, h, ρ, s, (Out.bind s.rh o).mono fun v H1 ⟨w, m1, h1, r1, v1, q1, o1⟩ =>
    ⟨m1, h1, ρ, s.mv r1 v1, (Out.bind r1 o1).mono fun u H2 ⟨w2, m2, h2, r2, v2, q2, o2⟩ => hop B.cl _ m2 h2 H2 w w2 v u Q r2 (q1.mono v2.old v2.le (v2.tupk r1)) q2 o2⟩⟩
theorem se_op {op : Operator} {r : R2} {g : W → W → Hpe → Res W} (ho : OpR X (binaryOp op) r) (h : OpS B.G r g) (ha : SE X B a fa) (hb : SE X B b fb) : SE X B (.BinOp a op b pos) (e2 g fa fb) := pe_imp (pe_op ho ha hb) (op2 h)
theorem se_cmp {op : CmpOp} {r : R2} {g : W → W → Hpe → Res W} (ho : OpR X (compareOp op) r) (h : OpS B.G r g) (ha : SE X B a fa) (hb : SE X B b fb) (hm : behindInMarks op b = false) : SE X B (.Compare a [op] [b] pos) (e2 g fa fb) :=
  pe_imp (pe_cmpR ho ha hb hm) (op2 h)
def asB (f : FE) : FT := fun ρ h => (f ρ h).bind fun w h1 => match w with
  | .bl b => .ok b h1
  | _ => .no
theorem asB_ok {m : Nat → Addr} {n : Nat} {G : GC} {H : Hp} {b : Bool} {v : V} (r : RW G m n H (.bl b) v) : v = .bl b := by cases r; rfl
theorem as_test {t : TE} (i : ∀ σ H Q, tE B.G B.cf B.cl B.W f σ H Q → t σ H Q) : ∀ σ H Q, tT B.G B.cf B.cl B.W (asB f) σ H Q → tTest t σ H Q := fun σ H Q ⟨m, h, ρ, s, o⟩ =>
  i σ H _ ⟨m, h, ρ, s, (Out.bind s.rh o).mono fun v H1 ⟨w, m1, h1, r1, v1, q1, o1⟩ => by
    cases w with
    | bl b => obtain rfl := asB_ok q1; exact ⟨b, rfl, o1 m1 H1 b r1 Mv.refl rfl⟩
    | _ => exact o1.elim⟩
theorem st_cmp {op : CmpOp} {r : R2} {g : W → W → Hpe → Res W} (ho : OpR X (compareOp op) r) (h : OpS B.G r g) (ha : SE X B a fa) (hb : SE X B b fb) (hm : behindInMarks op b = false) : ST X B (.Compare a [op] [b] pos) (asB (e2 g fa fb)) :=
  pt_imp (pt_cmpR ho ha hb hm) (as_test (op2 h))
def truW : W → Hpe → Option Bool
  | .non, _ => some false
  | .bl b, _ => some b
  | .int i, _ => some (i != 0)
  | .tup ws, _ => some (!ws.isEmpty)
  | .ref n, h => match h.get n with
    | some (.lst ws) => some (!ws.isEmpty)
    | some (.fz ws) => some (!ws.isEmpty)
    | some (.dk kvs) => some (!kvs.isEmpty)
    | _ => none
  | _, _ => none
def asT (f : FE) : FT := fun ρ h => (f ρ h).bind fun w h1 => match truW w h1 with
  | some b => .ok b h1
  | none => .no
theorem emp_len {α β : Type} {xs : List α} {ys : List β} (h : xs.length = ys.length) : xs.isEmpty = ys.isEmpty := by
  cases xs <;> cases ys <;> simp at h <;> rfl
theorem RH.lst {G : GC} {m : Nat → Addr} {h : Hpe} {H : Hp} (r : RH G m h H) {i : Nat} {ws : List W} (hi : i < h.nx) (e : h.get i = some (.lst ws)) : ∃ xs, H (m i) = some (.lst xs) ∧ RWs G m h.nx H ws xs := by
  obtain ⟨o, ho, q1, q2, q3⟩ := r.obj i hi
  rw [e] at q1; cases q1
  cases q3 with
  | lst q => exact ⟨_, q2, q⟩
def rdL (h : Hpe) (i : Nat) : Option (List W) := match h.get i with
  | some (.lst ws) => some ws
  | some (.fz ws) => some ws
  | _ => none
theorem RH.rd {G : GC} {m : Nat → Addr} {h : Hpe} {H : Hp} (r : RH G m h H) {i : Nat} {ws : List W} (hi : i < h.nx) (e : rdL h i = some ws) : ∃ xs, SqL G.K H (m i) xs ∧ RWs G m h.nx H ws xs := by
  obtain ⟨o, ho, q1, q2, q3⟩ := r.obj i hi
  unfold rdL at e
  rw [q1] at e
  cases q3 with
  | lst q => cases e; exact ⟨_, .inl (.inl q2), q⟩
  | fz q => cases e; exact ⟨_, .inl (.inr ⟨_, q2⟩), q⟩
  | dk _ _ => cases e
  | dn _ _ _ _ => cases e
  | st _ _ _ => cases e
  | si _ => cases e
  | ob _ _ _ => cases e
  | fd _ _ => cases e
  | fn _ _ _ _ => cases e
  | pt _ _ => cases e
  | er0 _ => cases e
  | er1 _ _ => cases e
  | xo => cases e
theorem tru_ok {G : GC} {m : Nat → Addr} {h : Hpe} {H : Hp} {w : W} {v : V} {b : Bool} (rh : RH G m h H) (r : RW G m h.nx H w v) (e : truW w h = some b) : TruV G.K v H b := by
  cases r with
  | non => cases e; rfl
  | bl c => cases e; rfl
  | int i => cases e; rfl
  | str x => cases e
  | tup s q => cases e; exact .inr (.inl ⟨_, s, by rw [emp_len q.len]⟩)
  | df _ => cases e
  | ref i hi =>
    obtain ⟨o, ho, q1, q2, q3⟩ := rh.obj i hi
    simp only [truW, q1] at e
    cases q3 with
    | lst q => cases e; exact .inl ⟨_, .inl (.inl q2), by rw [emp_len q.len]⟩
    | fz q => cases e; exact .inl ⟨_, .inl (.inr ⟨_, q2⟩), by rw [emp_len q.len]⟩
    | dk q q' => cases e; exact .inr (.inr ⟨_, q2, by rw [emp_len (by simpa using congrArg List.length q)]⟩)
    | dn _ _ _ _ => cases e
    | st _ _ _ => cases e
    | si _ => cases e
    | ob _ _ _ => cases e
    | fd _ _ => cases e
    | fn _ _ _ _ => cases e
    | pt _ _ => cases e
    | er0 _ => cases e
    | er1 _ _ => cases e
    | xo => cases e
theorem st_tru (hK : X.K = B.G.K) (h : SE X B e f) (ht : ∀ whole : Sem Value, isTrue e X.env whole = (do let v ← whole; standAt e.pos; holding [v] (truthy v))) : ST X B e (asT f) :=
  pt_imp (pt_truth h ht) fun σ H Q ⟨m, h, ρ, s, o⟩ => ⟨m, h, ρ, s, (Out.bind s.rh o).mono fun v H1 ⟨w, m1, h1, r1, v1, q1, o1⟩ => by
    cases c : truW w h1 with
    | none => rw [c] at o1; exact o1.elim
    | some b => rw [c] at o1; exact ⟨b, by rw [hK]; exact tru_ok r1 q1 c, o1 m1 H1 b r1 Mv.refl rfl⟩⟩
def tNt (f : FT) : FT := fun ρ h => (f ρ h).bind fun b h1 => .ok (!b) h1
theorem st_not (h : ST X B a ft) : ST X B (.UnaryOp .Not a pos) (tNt ft) :=
  pt_imp (pt_not h) fun σ H Q ⟨m, h, ρ, s, o⟩ => ⟨m, h, ρ, s, (Out.bind s.rh o).mono fun v H1 ⟨w, m1, h1, r1, v1, q1, o1⟩ => by subst q1; exact o1 m1 H1 _ r1 Mv.refl rfl⟩
def tOr' (f g : FT) : FT := fun ρ h => (f ρ h).bind fun b h1 => bif b then .ok true h1 else g ρ h1
variable {f1 f2 : FT} {rest : List Expr}
theorem sw_or1 (h : ST X B a f1) : SW X B (.BoolOp .Or [a] pos) f1 := pw_or1 h
theorem sw_or (h : ST X B a f1) (h' : SW X B (.BoolOp .Or (b :: rest) pos) f2) : SW X B (.BoolOp .Or (a :: b :: rest) pos) (tOr' f1 f2) :=
  pw_imp (pw_or h h') fun σ H Q ⟨m, h, ρ, s, o⟩ => ⟨m, h, ρ, s, (Out.bind s.rh o).mono fun v H1 ⟨w, m1, h1, r1, v1, q1, o1⟩ => by
    subst q1
    cases w with
    | true => rw [if_pos rfl]; exact o1 m1 H1 _ r1 Mv.refl rfl
    | false => rw [if_neg (by decide)]; exact ⟨m1, h1, ρ, s.mv r1 v1, o1⟩⟩
theorem SW.st (h : SW X B e ft) : ST X B e ft := PW.pt h
def eIf (t : FT) (fa fb : FE) : FE := fun ρ h => (t ρ h).bind fun b h1 => bif b then fa ρ h1 else fb ρ h1
theorem se_if (hc : ST X B c ft) (ha : SE X B a fa) (hb : SE X B b fb) : SE X B (.IfExp c a b pos) (eIf ft fa fb) :=
  pe_imp (pe_ifExp hc ha hb) fun σ H Q ⟨m, h, ρ, s, o⟩ => ⟨m, h, ρ, s, (Out.bind s.rh o).mono fun v H1 ⟨w, m1, h1, r1, v1, q1, o1⟩ => by
    subst q1
    cases w with
    | true => rw [if_pos rfl]; exact ⟨m1, h1, ρ, s.mv r1 v1, o1⟩
    | false => rw [if_neg (by decide)]; exact ⟨m1, h1, ρ, s.mv r1 v1, o1⟩⟩
def eAn (fa fb : FE) : FE := fun ρ h => (fa ρ h).bind fun w h1 => match w with
  | .bl true => fb ρ h1
  | .bl false => .ok (.bl false) h1
  | _ => .no
theorem se_one {op} (h : SE X B a fa) : SE X B (.BoolOp op [a] pos) fa := pe_one h
theorem se_and (ha : SE X B a fa) (hb : SE X B (.BoolOp .And (b :: rest) pos) fb) : SE X B (.BoolOp .And (a :: b :: rest) pos) (eAn fa fb) :=
  pe_imp (pe_and ha hb) fun σ H Q ⟨m, h, ρ, s, o⟩ => ⟨m, h, ρ, s, (Out.bind s.rh o).mono fun v H1 ⟨w, m1, h1, r1, v1, q1, o1⟩ => by
    cases w with
    | bl d =>
      obtain rfl := asB_ok q1
      cases d with
      | true => exact ⟨true, rfl, by rw [if_pos rfl]; exact ⟨m1, h1, ρ, s.mv r1 v1, o1⟩⟩
      | false => exact ⟨false, rfl, by rw [if_neg (by decide)]; exact o1 m1 H1 _ r1 Mv.refl (.bl _)⟩
    | _ => exact o1.elim⟩
end
end EV
namespace DL
open PySem PySem.Spec PyProof.Rows L2
def hide (H : Hp) (l : List Addr) : Hp := fun a => if a ∈ l then none else H a
theorem hide_in {H : Hp} {l : List Addr} {a : Addr} (h : a ∈ l) : hide H l a = none := if_pos h
theorem hide_out {H : Hp} {l : List Addr} {a : Addr} (h : a ∉ l) : hide H l a = H a := if_neg h
theorem hide_some {H : Hp} {l : List Addr} {a : Addr} {o : HO} (h : hide H l a = some o) : a ∉ l ∧ H a = some o := by
  by_cases c : a ∈ l
  · rw [hide_in c] at h; cases h
  · rw [hide_out c] at h; exact ⟨c, h⟩
theorem hide_same (H : Hp) (l : List Addr) : Same (hide H l) H := fun b o h => (hide_some h).2
theorem hide_mono {H H' : Hp} {l : List Addr} (e : Same H H') : Same (hide H l) (hide H' l) := fun b o h => by
  obtain ⟨c, h⟩ := hide_some h
  rw [hide_out c]; exact e _ _ h
theorem hide_sub {H : Hp} {l l' : List Addr} (e : ∀ a ∈ l', a ∈ l) : Same (hide H l) (hide H l') := fun b o h => by
  obtain ⟨c, h⟩ := hide_some h
  rw [hide_out fun z => c (e _ z)]; exact h
theorem same_new {H : Hp} {p : Addr} (h : H p = none) (o : HO) : Same H (upd H p o) := fun b u q => by rw [upd_ne (ne_of_none q h)]; exact q
theorem seqT {K : PySem.W.Frag} {H H' : Hp} {a : Addr} {xs : List V} (e : Same H H') (h : SqT K H a xs) : SqT K H' a xs := by
  rcases h with (h | ⟨o, h⟩) | h
  · exact .inl (.inl (e _ _ h))
  · exact .inl (.inr ⟨o, e _ _ h⟩)
  · exact .inr h
def keyD : Key → PyData
  | .inl i => .int i
  | .inr x => .str x
def dkD (kvs : List (Key × PyData)) : PyData := .dict (kvs.map fun p => (keyD p.1, p.2))
def dtD (kvs : List (List Key × PyData)) : PyData := .dict (kvs.map fun p => (.tuple (p.1.map keyD), p.2))
mutual
inductive Dq (K : PySem.W.Frag) (H : Hp) : V → PyData → Prop
  | non : Dq K H .non .none
  | bl (b : Bool) : Dq K H (.bl b) (.bool b)
  | int (i : Int) : Dq K H (.int i) (.int i)
  | str (x : Str) : Dq K H (.str x) (.str x)
  | lst {a : Addr} {xs : List V} {ds : List PyData} : SqL K H a xs → DqAll K H xs ds → Dq K H (.ref a) (.list ds)
  | tup {a : Addr} {xs : List V} {ds : List PyData} : SqT K H a xs → DqAll K H xs ds → Dq K H (.ref a) (.tuple ds)
  | dk {a : Addr} {kvs : List (Key × V)} {dvs : List (Key × PyData)} {ps : List (PyData × PyData)} {xs : List V} {ds : List PyData} : H a = some (.dK kvs) → kvs.map (·.1) = dvs.map (·.1) → kvs.map (·.2) = xs → dvs.map (·.2) = ds → DqAll K H xs ds → .dict ps = dkD dvs → Dq K H (.ref a) (.dict ps)
  | dt {a : Addr} {kvs : List (List Key × V)} {dvs : List (List Key × PyData)} {ps : List (PyData × PyData)} {xs : List V} {ds : List PyData} : H a = some (.dT kvs) → kvs.map (·.1) = dvs.map (·.1) → kvs.map (·.2) = xs → dvs.map (·.2) = ds → DqAll K H xs ds → dvs ≠ [] → .dict ps = dtD dvs → Dq K H (.ref a) (.dict ps)
inductive DqAll (K : PySem.W.Frag) (H : Hp) : List V → List PyData → Prop
  | nil : DqAll K H [] []
  | cons {v : V} {vs : List V} {d : PyData} {ds : List PyData} : Dq K H v d → DqAll K H vs ds → DqAll K H (v :: vs) (d :: ds)
end
theorem dp_mono {K : PySem.W.Frag} {H H' : Hp} (e : Same H H') {v : V} {d : PyData} (h : Dq K H v d) : Dq K H' v d :=
  Dq.rec (motive_1 := fun v d _ => Dq K H' v d) (motive_2 := fun vs ds _ => DqAll K H' vs ds) .non (fun b => .bl b) (fun i => .int i) (fun x => .str x) (fun a _ ih => .lst (e.seq a) ih) (fun a _ ih => .tup (seqT e a) ih)
    (fun a p q r _ s ih => .dk (e _ _ a) p q r ih s) (fun a p q r _ n s ih => .dt (e _ _ a) p q r ih n s) .nil (fun _ _ h t => .cons h t) h
theorem dps_mono {K : PySem.W.Frag} {H H' : Hp} (e : Same H H') : ∀ {v : List V} {d : List PyData}, DqAll K H v d → DqAll K H' v d
  | _, _, .nil => .nil
  | _, _, .cons a b => .cons (dp_mono e a) (dps_mono e b)
theorem dps_len {K : PySem.W.Frag} {H : Hp} : ∀ {vs : List V} {ds : List PyData}, DqAll K H vs ds → vs.length = ds.length
  | _, _, .nil => rfl
  | _, _, .cons _ t => congrArg (· + 1) (dps_len t)
theorem dps_get' {K : PySem.W.Frag} {H : Hp} : ∀ {vs : List V} {ds : List PyData} {i : Nat} {v : V}, DqAll K H vs ds → vs[i]? = some v → ∃ d, ds[i]? = some d ∧ Dq K H v d
  | _, _, _, _, .nil, e => by simp at e
  | _, _, 0, _, .cons a t, e => by simp at e; subst e; exact ⟨_, rfl, a⟩
  | _, _, i + 1, _, .cons a t, e => by
    obtain ⟨v, h1, h2⟩ := dps_get' (i := i) t (by simpa using e)
    exact ⟨v, by simpa using h1, h2⟩
inductive OD where
  | lst (ds : List PyData)
  | dk (kvs : List (Key × PyData))
  | dt (kvs : List (List Key × PyData))
inductive OQ (K : PySem.W.Frag) (G : Hp) : HO → OD → Prop
  | lst {xs : List V} {ds : List PyData} : DqAll K G xs ds → OQ K G (.lst xs) (.lst ds)
  | dk {kvs : List (Key × V)} {dvs : List (Key × PyData)} : kvs.map (·.1) = dvs.map (·.1) → DqAll K G (kvs.map (·.2)) (dvs.map (·.2)) → OQ K G (.dK kvs) (.dk dvs)
  | dt {kvs : List (List Key × V)} {dvs : List (List Key × PyData)} : kvs.map (·.1) = dvs.map (·.1) → DqAll K G (kvs.map (·.2)) (dvs.map (·.2)) → OQ K G (.dT kvs) (.dt dvs)
theorem OQ.mono {K : PySem.W.Frag} {G G' : Hp} (e : Same G G') {ho : HO} {o : OD} (h : OQ K G ho o) : OQ K G' ho o := by
  cases h with
  | lst a => exact .lst (dps_mono e a)
  | dk a b => exact .dk a (dps_mono e b)
  | dt a b => exact .dt a (dps_mono e b)
inductive Slot where
  | un
  | d (d : PyData)
  | obj (o : OD)
  | urn (n : Nat)
abbrev Slot.own (ds : List PyData) : Slot := .obj (.lst ds)
abbrev Env := List Slot
def UrnAt (H : Hp) (u : Addr) (n : Nat) : Prop := ∃ (b s : Int) (k : Nat), H u = some (.lst [.int b, .int s, .int (k : Int)]) ∧ 0 ≤ b ∧ 0 ≤ s ∧ s < 2 ^ 62 ∧ k ≤ n
inductive RepS (K : PySem.W.Frag) (G H : Hp) (U : List Addr) : List (Option V) → Env → List Addr → Prop
  | nil : RepS K G H U [] [] []
  | un {x σ ρ as} : RepS K G H U σ ρ as → RepS K G H U (x :: σ) (.un :: ρ) as
  | d {v d σ ρ as} : Dq K G v d → RepS K G H U σ ρ as → RepS K G H U (some v :: σ) (.d d :: ρ) as
  | obj {a ho o σ ρ as} : H a = some ho → OQ K G ho o → a ∉ as → RepS K G H U σ ρ as → RepS K G H U (some (.ref a) :: σ) (.obj o :: ρ) (a :: as)
  | urn {a n σ ρ as} : UrnAt H a n → a ∈ U → RepS K G H U σ ρ as → RepS K G H U (some (.ref a) :: σ) (.urn n :: ρ) as
structure Fx where
  N : List Addr
  He : Hp
  U : List Addr
def SameBut (U : List Addr) (H H' : Hp) : Prop := ∀ b o, b ∉ U → H b = some o → H' b = some o
theorem SameBut.trans {U : List Addr} {H H1 H2 : Hp} (a : SameBut U H H1) (b : SameBut U H1 H2) : SameBut U H H2 := fun c o z h => b c o z (a c o z h)
structure Rep (K : PySem.W.Frag) (C : Fx) (as : List Addr) (H : Hp) (σ : List (Option V)) (ρ : Env) : Prop where
  rep : RepS K (hide H (as ++ C.N)) H C.U σ ρ as
  ent : SameBut C.U C.He H
  own : ∀ a ∈ as, C.He a = none
  hid : ∀ a ∈ C.N, C.He a ≠ none
  unn : ∀ u ∈ C.U, u ∈ C.N ∧ H u ≠ none
structure Keep (l : List Addr) (H H' : Hp) : Prop where
  see : Same (hide H l) (hide H' l)
  all : ∀ a, H a ≠ none → H' a ≠ none
theorem Keep.refl (l : List Addr) (H : Hp) : Keep l H H := ⟨Same.refl _, fun _ h => h⟩
theorem Keep.trans {l : List Addr} {H H1 H2 : Hp} (a : Keep l H H1) (b : Keep l H1 H2) : Keep l H H2 := ⟨a.see.trans b.see, fun x h => b.all x (a.all x h)⟩
theorem Keep.new {l : List Addr} {H : Hp} {p : Addr} (h : H p = none) (o : HO) : Keep l H (upd H p o) := ⟨hide_mono (same_new h o), fun a z => by
  by_cases c : a = p
  · rw [c, upd_same]; exact fun q => by cases q
  · rw [upd_ne c]; exact z⟩
theorem Keep.of {l : List Addr} {H H' : Hp} (e : Same H H') : Keep l H H' := ⟨hide_mono e, fun a z => by
  cases q : H a with
  | none => exact absurd q z
  | some o => rw [e a o q]; exact fun z => by cases z⟩
section
variable {K : PySem.W.Frag} {G G' H H' : Hp} {U as : List Addr} {σ : List (Option V)} {ρ : Env}
theorem UrnAt.some {u : Addr} {n : Nat} (h : UrnAt H u n) : H u ≠ none := by
  obtain ⟨b, s, k, e, _⟩ := h
  rw [e]; exact fun z => by cases z
theorem UrnAt.move {u : Addr} {n : Nat} (h : UrnAt H u n) (e : H' u = H u) : UrnAt H' u n := by
  obtain ⟨b, s, k, e1, r⟩ := h
  exact ⟨b, s, k, e.trans e1, r⟩
theorem UrnAt.more {u : Addr} {n n' : Nat} (h : UrnAt H u n) (e : n ≤ n') : UrnAt H u n' := by
  obtain ⟨b, s, k, e1, h0, h1, h2, h3⟩ := h
  exact ⟨b, s, k, e1, h0, h1, h2, Nat.le_trans h3 e⟩
theorem RepS.len (r : RepS K G H U σ ρ as) : σ.length = ρ.length := by
  induction r with
  | nil => rfl
  | un _ ih => simp [ih]
  | d _ _ ih => simp [ih]
  | obj _ _ _ _ ih => simp [ih]
  | urn _ _ _ ih => simp [ih]
theorem RepS.mono (r : RepS K G H U σ ρ as) (e : Same G G') (ha : ∀ a ∈ as, H' a = H a) (hu : ∀ u n, u ∈ U → UrnAt H u n → UrnAt H' u n) : RepS K G' H' U σ ρ as := by
  induction r with
  | nil => exact .nil
  | un _ ih => exact .un (ih ha)
  | d h _ ih => exact .d (dp_mono e h) (ih ha)
  | obj h1 h2 h3 _ ih => exact .obj ((ha _ (List.mem_cons_self ..)).trans h1) (h2.mono e) h3 (ih fun a h => ha a (List.mem_cons_of_mem _ h))
  | urn h1 h2 _ ih => exact .urn (hu _ _ h2 h1) h2 (ih ha)
theorem RepS.get (r : RepS K G H U σ ρ as) : ∀ {i : Nat} {d : PyData}, ρ[i]? = some (.d d) → ∃ v, σ[i]? = some (some v) ∧ Dq K G v d := by
  induction r with
  | nil => intro i d e; simp at e
  | un _ ih =>
    intro i d e
    cases i with
    | zero => simp at e
    | succ i => exact ih (i := i) (by simpa using e)
  | d h _ ih =>
    intro i d e
    cases i with
    | zero => simp at e; subst e; exact ⟨_, rfl, h⟩
    | succ i => exact ih (i := i) (by simpa using e)
  | obj _ _ _ _ ih =>
    intro i d e
    cases i with
    | zero => simp at e
    | succ i => exact ih (i := i) (by simpa using e)
  | urn _ _ _ ih =>
    intro i d e
    cases i with
    | zero => simp at e
    | succ i => exact ih (i := i) (by simpa using e)
theorem RepS.getObj (r : RepS K G H U σ ρ as) : ∀ {i : Nat} {o : OD}, ρ[i]? = some (.obj o) → ∃ a ho, σ[i]? = some (some (.ref a)) ∧ a ∈ as ∧ H a = some ho ∧ OQ K G ho o := by
  induction r with
  | nil => intro i d e; simp at e
  | un _ ih =>
    intro i d e
    cases i with
    | zero => simp at e
    | succ i => exact ih (i := i) (by simpa using e)
  | d h _ ih =>
    intro i d e
    cases i with
    | zero => simp at e
    | succ i => exact ih (i := i) (by simpa using e)
  | obj h1 h2 h3 _ ih =>
    intro i d e
    cases i with
    | zero => simp at e; subst e; exact ⟨_, _, rfl, List.mem_cons_self .., h1, h2⟩
    | succ i =>
      obtain ⟨a, xs, q1, q2, q3⟩ := ih (i := i) (by simpa using e)
      exact ⟨a, xs, by simpa using q1, List.mem_cons_of_mem _ q2, q3⟩
  | urn _ _ _ ih =>
    intro i d e
    cases i with
    | zero => simp at e
    | succ i => exact ih (i := i) (by simpa using e)
theorem RepS.set {x : Option V} {sl : Slot} {new : List Addr} (hs : ∀ {σ ρ as}, RepS K G H U σ ρ as → (∀ a ∈ new, a ∉ as) → RepS K G H U (x :: σ) (sl :: ρ) (new ++ as)) (r : RepS K G H U σ ρ as) :
    ∀ (i : Nat), (∀ a ∈ new, a ∉ as) → ∃ as', RepS K G H U (σ.set i x) (ρ.set i sl) as' ∧ ∀ a, a ∈ as' → a ∈ new ∨ a ∈ as := by
  induction r with
  | nil => intro i _; exact ⟨[], .nil, fun _ h => nomatch h⟩
  | @un y σ ρ as t ih =>
    intro i hn
    cases i with
    | zero => exact ⟨_, hs t hn, fun a h => List.mem_append.mp h⟩
    | succ i =>
      obtain ⟨as', q1, q2⟩ := ih i hn
      exact ⟨as', .un q1, q2⟩
  | @d v d σ ρ as h t ih =>
    intro i hn
    cases i with
    | zero => exact ⟨_, hs t hn, fun a h => List.mem_append.mp h⟩
    | succ i =>
      obtain ⟨as', q1, q2⟩ := ih i hn
      exact ⟨as', .d h q1, q2⟩
  | @obj b xs ds σ ρ as h1 h2 h3 t ih =>
    intro i hn
    have hn' : ∀ a ∈ new, a ∉ as := fun a ha z => hn a ha (List.mem_cons_of_mem _ z)
    cases i with
    | zero => exact ⟨_, hs t hn', fun a h => (List.mem_append.mp h).imp id (List.mem_cons_of_mem _)⟩
    | succ i =>
      obtain ⟨as', q1, q2⟩ := ih i hn'
      refine ⟨b :: as', .obj h1 h2 (fun z => ?_) q1, fun a h => ?_⟩
      · rcases q2 b z with z | z
        · exact hn b z (List.mem_cons_self ..)
        · exact h3 z
      · rcases List.mem_cons.mp h with h | h
        · subst h; exact .inr (List.mem_cons_self ..)
        · exact (q2 a h).imp id (List.mem_cons_of_mem _)
  | @urn b n σ ρ as h1 h2 t ih =>
    intro i hn
    cases i with
    | zero => exact ⟨_, hs t hn, fun a h => List.mem_append.mp h⟩
    | succ i =>
      obtain ⟨as', q1, q2⟩ := ih i hn
      exact ⟨as', .urn h1 h2 q1, q2⟩
end
end DL
namespace DL
open PySem PySem.Spec PyProof.Rows L2
section
variable {K : PySem.W.Frag} {C : Fx} {as : List Addr} {H H' H1 H2 : Hp} {σ : List (Option V)} {ρ ρ' ρ1 ρ2 : Env}
theorem RepS.at {G : Hp} {U : List Addr} (r : RepS K G H U σ ρ as) : ∀ a ∈ as, ∃ o, H a = some o := by
  induction r with
  | nil => intro a h; cases h
  | un _ ih => exact ih
  | d _ _ ih => exact ih
  | obj h1 _ _ _ ih =>
    intro a h
    rcases List.mem_cons.mp h with rfl | h
    · exact ⟨_, h1⟩
    · exact ih a h
  | urn _ _ _ ih => exact ih
theorem Rep.same (r : Rep K C as H σ ρ) (e : Same H H') : Rep K C as H' σ ρ where
  rep := r.rep.mono (hide_mono e) (fun a ha => by
    obtain ⟨xs, q⟩ := r.rep.at a ha
    rw [q, e a _ q]) fun u n _ hu => by
      obtain ⟨b, s, k, q, z⟩ := hu
      exact ⟨b, s, k, e u _ q, z⟩
  ent := r.ent.trans fun b o _ q => e b o q
  own := r.own
  hid := r.hid
  unn := fun u hu => ⟨(r.unn u hu).1, (Keep.of (l := []) e).all u (r.unn u hu).2⟩
abbrev WD := Env → (PyData → Env → Prop) → Prop
abbrev WT := Env → (Bool → Env → Prop) → Prop
abbrev WA := Env → (List PyData → Env → Prop) → Prop
def tDT (K : PySem.W.Frag) (C : Fx) (w : WT) : TT := fun σ H Q => ∃ as ρ k, Rep K C as H σ ρ ∧ w ρ k ∧
  ∀ b ρ' H', k b ρ' → Rep K C as H' σ ρ' → Keep (as ++ C.N) H H' → Q b H'
end
variable {X : Cx} {C : Fx}
def PDT (X : Cx) (C : Fx) (e : Expr) (w : WT) : Prop := PT X e (tDT X.K C w)
theorem pe_imp {e : Expr} {t t' : TE} (h : PE X e t) (i : ∀ σ H Q, t' σ H Q → t σ H Q) : PE X e t' := ⟨fun pins s σ H Q I q => h.run pins s σ H Q I (i σ H Q q)⟩
theorem pt_imp {e : Expr} {t t' : TT} (h : PT X e t) (i : ∀ σ H Q, t' σ H Q → t σ H Q) : PT X e t' := ⟨fun pins s σ H Q I q => h.run pins s σ H Q I (i σ H Q q)⟩
theorem pa_imp {e : List Expr} {t t' : TA} (h : PA X e t) (i : ∀ σ H Q, t' σ H Q → t σ H Q) : PA X e t' := ⟨fun pos pins s σ H Q I q => h.run pos pins s σ H Q I (i σ H Q q)⟩
theorem not_hid {K : PySem.W.Frag} {as : List Addr} {H : Hp} {σ : List (Option V)} {ρ : Env} {p : Addr} (r : Rep K C as H σ ρ) (h : H p = none) : p ∉ as ++ C.N := fun z => by
  rcases List.mem_append.mp z with z | z
  · obtain ⟨xs, q⟩ := r.rep.at p z
    rw [q] at h; cases h
  · by_cases c : p ∈ C.U
    · exact (r.unn p c).2 h
    · cases q : C.He p with
      | none => exact r.hid p z q
      | some o =>
        have := r.ent p o c q
        rw [h] at this; cases this
end DL
namespace DL
open PySem PySem.Spec PyProof.Rows L2
section
variable {K : PySem.W.Frag} {H : Hp} {v : V}
theorem seqT_un {l : List Addr} {a : Addr} {xs : List V} (h : SqT K (hide H l) a xs) : SqT K H a xs := seqT (hide_same H l) h
end
variable {X : Cx} {C : Fx}
def rCatL (K : PySem.W.Frag) : R2 := fun x y H Q => ∃ l b xs zs, x = .ref l ∧ y = .ref b ∧ SqL K H l xs ∧ SqL K H b zs ∧ xs.length + zs.length ≤ sizeLine ∧ ∀ p, H p = none → Q (.ref p) (upd H p (.lst (xs ++ zs)))
theorem op_catL : OpR X (binaryOp .Add) (rCatL X.K) := by
  intro pins s σ H x y v u Q I rx ry h
  obtain ⟨l, b, xs, zs, rfl, rfl, h1, h2, hz, q⟩ := h
  cases rx
  cases ry
  obtain ⟨is1, r1, ⟨⟨c1, d1, t1, s1⟩, n1, ho1, hc1, _, hd1⟩, _⟩ := I.list h1
  obtain ⟨is2, r2, ⟨⟨c2, d2, t2, s2⟩, n2, ho2, hc2, _, hd2⟩, _⟩ := I.list h2
  dsimp only at hc1 hd1 hc2 hd2
  subst hc1 hd1 hc2 hd2
  have k1 := r1.length
  have k2 := r2.length
  have ea : is1.toArray ++ is2.toArray = (is1 ++ is2).toArray := by simp
  refine concat_meets ⟨_, ho1, rfl⟩ ⟨_, ho2, rfl⟩ noFill_list_add seq_list_add PySem.F.slot_list_add PySem.F.entry_list_add (PySem.F.args_list_add_2 _ _)
    (list_addW l b is1.toArray is2.toArray n1 n2 d1 d2 s1 s2 (by rw [List.size_toArray, List.size_toArray]; omega)) ⟨ho1, ho2, ?_⟩
  rw [ea]
  exact ⟨.ref _, _, I.lnew (t' := s.toks) (r1.append r2) (by rw [List.length_append]; omega), rfl, q _ I.fresh⟩
section
variable {a b : Expr} {pos : Pos} {wa wb : WD}
end
def PDW (X : Cx) (C : Fx) (e : Expr) (w : WT) : Prop := PW X e (tDT X.K C w)
theorem pw_imp {e : Expr} {t t' : TT} (h : PW X e t) (i : ∀ σ H Q, t' σ H Q → t σ H Q) : PW X e t' := ⟨fun wh pins s σ H Q I q => h.run wh pins s σ H Q I (i σ H Q q)⟩
theorem PDW.pt {e : Expr} {w : WT} (h : PDW X C e w) : PDT X C e w := PW.pt h
section
variable {a b : Expr} {rest : List Expr} {pos : Pos} {w w' : WT}
end
end DL
namespace DL
open PySem PySem.Spec PyProof.Rows L2
variable {X : Cx} {C : Fx}
def seqOf : PyData → Option (List PyData)
  | .tuple ds => some ds
  | .list ds => some ds
  | _ => none
theorem po_imp {e : Option Expr} {t t' : TO} (h : PO X e t) (i : ∀ σ H Q, t' σ H Q → t σ H Q) : PO X e t' := ⟨fun pins s σ H Q I q => h.run pins s σ H Q I (i σ H Q q)⟩
theorem sl_D : SlR X (fun x lo hi H Q => rSlA X.K x lo hi H Q ∨ rSlL X.K x lo hi H Q) := SlR.or sl_tupA sl_list
section
variable {x : Str} {p pos : Pos} {e : Expr} {es : List Expr} {ws : WA}
end
def fTuple : List PyData → (PyData → Prop) → Prop := fun ds k => ∃ d xs, ds = [d] ∧ seqOf d = some xs ∧ k (.tuple xs)
end DL
namespace DL
open PySem PySem.Spec PyProof.Rows L2
structure DEnds where
  nx : Env → Prop
  rt : PyData → Env → Prop
  bk : Env → Prop := fun _ => False
  ct : Env → Prop := fun _ => False
abbrev WS := DEnds → Env → Prop
structure Step (C : Fx) (as : List Addr) (H : Hp) (as' : List Addr) (H' : Hp) : Prop where
  kp : ∀ a o, a ∉ as ++ C.N → H a = some o → H' a = some o
  su : ∀ a ∈ as', a ∈ as ∨ H a = none
  al : ∀ a, H a ≠ none → H' a ≠ none
section
variable {K : PySem.W.Frag} {C : Fx} {as as' as1 as2 : List Addr} {H H' H1 H2 : Hp} {σ : List (Option V)} {ρ : Env}
theorem Step.refl : Step C as H as H := ⟨fun _ _ _ h => h, fun _ h => .inl h, fun _ h => h⟩
theorem Step.trans (a : Step C as H as1 H1) (b : Step C as1 H1 as2 H2) : Step C as H as2 H2 where
  kp := fun x o hx h => b.kp x o (fun z => by
    rcases List.mem_append.mp z with z | z
    · rcases a.su x z with q | q
      · exact hx (List.mem_append_left _ q)
      · rw [q] at h; cases h
    · exact hx (List.mem_append_right _ z)) (a.kp x o hx h)
  su := fun x hx => by
    rcases b.su x hx with q | q
    · exact a.su x q
    · refine .inr ?_
      cases e : H x with
      | none => rfl
      | some o => exact absurd q (a.al x (by rw [e]; exact fun z => by cases z))
  al := fun x h => b.al x (a.al x h)
theorem Keep.step (k : Keep (as ++ C.N) H H') : Step C as H as H' where
  kp := fun a o ha h => (hide_some (k.see a o (by rw [hide_out ha]; exact h))).2
  su := fun _ h => .inl h
  al := k.all
theorem Step.sub (h : ∀ a ∈ as', a ∈ as) : Step C as H as' H := ⟨fun _ _ _ h => h, fun a z => .inl (h a z), fun _ h => h⟩
theorem Step.see (s : Step C as H as' H') : Same (hide H (as ++ C.N)) (hide H' (as' ++ C.N)) := fun b o h => by
  obtain ⟨c, h⟩ := hide_some h
  rw [hide_out]
  · exact s.kp b o c h
  · intro z
    rcases List.mem_append.mp z with z | z
    · rcases s.su b z with q | q
      · exact c (List.mem_append_left _ q)
      · rw [q] at h; cases h
    · exact c (List.mem_append_right _ z)
theorem RepS.free {G : Hp} {U : List Addr} (r : RepS K G H U σ ρ as) : ∀ {i : Nat} {ds : OD} {b : Addr}, ρ[i]? = some (.obj ds) → σ[i]? = some (some (.ref b)) → ∃ as', RepS K G H U σ (ρ.set i .un) as' ∧ b ∉ as' ∧ ∀ a ∈ as', a ∈ as := by
  induction r with
  | nil => intro i ds b e; simp at e
  | @un y σ ρ as t ih =>
    intro i ds b e1 e2
    cases i with
    | zero => simp at e1
    | succ i =>
      obtain ⟨as', q1, q2, q3⟩ := ih (i := i) (b := b) (by simpa using e1) (by simpa using e2)
      exact ⟨as', .un q1, q2, q3⟩
  | @d v d σ ρ as h t ih =>
    intro i ds b e1 e2
    cases i with
    | zero => simp at e1
    | succ i =>
      obtain ⟨as', q1, q2, q3⟩ := ih (i := i) (b := b) (by simpa using e1) (by simpa using e2)
      exact ⟨as', .d h q1, q2, q3⟩
  | @obj c xs ds' σ ρ as h1 h2 h3 t ih =>
    intro i ds b e1 e2
    cases i with
    | zero =>
      simp at e2
      subst e2
      exact ⟨as, .un t, h3, fun a z => List.mem_cons_of_mem _ z⟩
    | succ i =>
      obtain ⟨as', q1, q2, q3⟩ := ih (i := i) (b := b) (by simpa using e1) (by simpa using e2)
      obtain ⟨b', zs, p1, p2, _⟩ := t.getObj (i := i) (o := ds) (by simpa using e1)
      have e2' : σ[i]? = some (some (V.ref b)) := by simpa using e2
      rw [p1] at e2'
      cases e2'
      refine ⟨c :: as', .obj h1 h2 (fun z => h3 (q3 c z)) q1, fun z => ?_, fun a z => ?_⟩
      · rcases List.mem_cons.mp z with z | z
        · subst z; exact h3 p2
        · exact q2 z
      · rcases List.mem_cons.mp z with z | z
        · subst z; exact List.mem_cons_self ..
        · exact List.mem_cons_of_mem _ (q3 a z)
  | @urn c n σ ρ as h1 h2 t ih =>
    intro i ds b e1 e2
    cases i with
    | zero => simp at e1
    | succ i =>
      obtain ⟨as', q1, q2, q3⟩ := ih (i := i) (b := b) (by simpa using e1) (by simpa using e2)
      exact ⟨as', .urn h1 h2 q1, q2, q3⟩
end
def tDS (K : PySem.W.Frag) (C : Fx) (w : WS) : TS := fun D σ H => ∃ as ρ P, Rep K C as H σ ρ ∧ w P ρ ∧
  (∀ as' ρ' σ' H', P.nx ρ' → Rep K C as' H' σ' ρ' → Step C as H as' H' → D.nx σ' H') ∧
  (∀ d ρ' v as' σ' H', P.rt d ρ' → Rep K C as' H' σ' ρ' → Step C as H as' H' → Dq K (hide H' (as' ++ C.N)) v d → D.rt v H') ∧
  (∀ as' ρ' σ' H', P.bk ρ' → Rep K C as' H' σ' ρ' → Step C as H as' H' → D.bk σ' H') ∧
  (∀ as' ρ' σ' H', P.ct ρ' → Rep K C as' H' σ' ρ' → Step C as H as' H' → D.ct σ' H')
variable {X : Cx} {C : Fx}
def PDSs (X : Cx) (C : Fx) (st : List Stmt) (w : WS) : Prop := PSs X st (tDS X.K C w)
theorem ps_imp {st : Stmt} {t t' : TS} (h : PS X st t) (i : ∀ D σ H, t' D σ H → t D σ H) : PS X st t' := ⟨fun pins s σ H D I q => h.run pins s σ H D I (i D σ H q)⟩
theorem pss_imp {st : List Stmt} {t t' : TS} (h : PSs X st t) (i : ∀ D σ H, t' D σ H → t D σ H) : PSs X st t' := ⟨fun pins s σ H D I q => h.run pins s σ H D I (i D σ H q)⟩
section
variable {st : Stmt} {rest a b : List Stmt} {w w' w1 w2 : WS} {we : WD} {wt : WT} {e c : Expr} {pos : Pos}
end
end DL
namespace DL
open PySem PySem.Spec PyProof.Rows L2
def Its (K : PySem.W.Frag) (l0 : List Addr) (H0 : Hp) (ds : List PyData) (J : It) : Prop :=
  ∃ (G : Hp → Prop) (Y : Nat → Hp → V → Hp → Prop), Walk J ds.length G Y ∧ (∀ l H, Same (hide H0 l0) (hide H l) → G H) ∧
    ∀ (j : Nat) (x : V) (l : List Addr) (H H' : Hp), j < ds.length → Same (hide H0 l0) (hide H l) → (∀ a, H a = none → a ∉ l) → Y j H x H' → Same H H' ∧ ∃ d, ds[j]? = some d ∧ Dq K (hide H' l) x d
abbrev WI := Env → (List PyData → Env → Prop) → Prop
theorem pi_imp {X : Cx} {tg iter : Expr} {t t' : TI} (h : PI X tg iter t) (i : ∀ σ H R, t' σ H R → t σ H R) : PI X tg iter t' := ⟨fun pins s σ H R I q => h.run pins s σ H R I (i σ H R q)⟩
variable {X : Cx} {C : Fx}
section
variable {K : PySem.W.Frag} {l0 : List Addr} {H0 : Hp} {a b : Addr} {xs ys : List V} {ds es : List PyData}
theorem its_tup (h : SqT K (hide H0 l0) a xs) (t : DqAll K (hide H0 l0) xs ds) : Its K l0 H0 ds (Itt K a) := by
  refine ⟨_, _, by rw [← dps_len t]; exact walk_tup (K := K) (a := a) (xs := xs), fun l H s => seqT_un (seqT s h), fun j x l H H' hj s _ y => ?_⟩
  obtain ⟨e, q⟩ := y
  subst e
  obtain ⟨d, h1, h2⟩ := dps_get' t q
  exact ⟨Same.refl _, d, h1, dp_mono s h2⟩
theorem dq_pair {l : List Addr} {H : Hp} {T : Addr} {x y : V} {d e : PyData} (hT : H T = none) (ht : T ∉ l) (h1 : Dq K (hide H l) x d) (h2 : Dq K (hide H l) y e) : Dq K (hide (upd H T (.tup [x, y])) l) (.ref T) (.tuple [d, e]) :=
  .tup (SqT.of (by rw [hide_out ht]; exact upd_same)) (.cons (dp_mono (hide_mono (same_new hT _)) h1) (.cons (dp_mono (hide_mono (same_new hT _)) h2) .nil))
def zipD (ds es : List PyData) : List PyData := List.zipWith (fun d e => .tuple [d, e]) ds es
theorem its_zipT (h1 : SqT K (hide H0 l0) a xs) (t1 : DqAll K (hide H0 l0) xs ds) (h2 : SqT K (hide H0 l0) b ys) (t2 : DqAll K (hide H0 l0) ys es) : Its K l0 H0 (zipD ds es) (RZ.ItzT K a b) := by
  have hl : (zipD ds es).length = min xs.length ys.length := by rw [zipD, List.length_zipWith, dps_len t1, dps_len t2]
  refine ⟨fun H => SqT K H a xs ∧ SqT K H b ys, YPair (fun i => xs[i]?) (fun i => ys[i]?), ⟨?_, ?_, ?_⟩, fun l H s => ⟨seqT_un (seqT s h1), seqT_un (seqT s h2)⟩, fun j x l H H' hj s hn y => ?_⟩
  · intro i H hi ⟨p, q⟩
    rw [hl] at hi
    have i1 : i < xs.length := by omega
    have i2 : i < ys.length := by omega
    exact ⟨xs, ys, _, _, p, q, List.getElem?_eq_getElem i1, List.getElem?_eq_getElem i2⟩
  · intro H ⟨p, q⟩
    refine ⟨xs, ys, p, q, ?_⟩
    rw [hl]
    omega
  · intro i H x H' hi ⟨p, q⟩ y
    obtain ⟨T, u, v, e1, e2, e3, f1, f2⟩ := y
    exact ⟨T, u, v, e1, e2, e3, f1 xs p, f2 ys q⟩
  · obtain ⟨T, u, v, rfl, hT, rfl, q1, q2⟩ := y
    obtain ⟨d, g1, g2⟩ := dps_get' t1 q1
    obtain ⟨e, g3, g4⟩ := dps_get' t2 q2
    exact ⟨same_new hT _, .tuple [d, e], by simp [zipD, List.getElem?_zipWith, g1, g3], dq_pair hT (hn T hT) (dp_mono s g2) (dp_mono s g4)⟩
end
section
variable {tg e : Expr} {we : WD} {p pos tpos : Pos} {kk : Nat} {elts : List Expr}
end
theorem wipe_at (σ : L2.St) : ∀ (us : List Nat) (j : Nat), (wipe σ us)[j]? = if j ∈ us ∧ j < σ.length then some none else σ[j]?
  | [], j => by simp [wipe]
  | v :: us, j => by
    unfold wipe
    rw [List.getElem?_set, wipe_at σ us j, wipe_length]
    by_cases c : v = j
    · subst c
      by_cases l : v < σ.length
      · simp [l]
      · simp [l]
    · have c' : j ≠ v := fun z => c z.symm
      simp [c, c']
theorem wipe_wipe {σ : L2.St} {us : List Nat} : wipe (wipe σ us) us = wipe σ us := by
  refine List.ext_getElem? fun j => ?_
  rw [wipe_at, wipe_at, wipe_length]
  by_cases c : j ∈ us ∧ j < σ.length
  · simp [c]
  · simp [c]
abbrev WG := PyData → Env → (Env → Prop) → Prop
theorem pg_imp {tg : Expr} {t t' : TG} (h : PG X tg t) (i : ∀ v σ H Q, t' v σ H Q → t v σ H Q) : PG X tg t' := ⟨fun pins s σ H v u Q I r q => h.run pins s σ H v u Q I r (i v σ H Q q)⟩
theorem pgs_imp {tgs : List Expr} {t t' : TGs} (h : PGs X tgs t) (i : ∀ v σ H Q, t' v σ H Q → t v σ H Q) : PGs X tgs t' := ⟨fun pins s σ H v u Q I r q => h.run pins s σ H v u Q I r (i v σ H Q q)⟩
theorem Rep.free {K : PySem.W.Frag} {as : List Addr} {H : Hp} {σ : List (Option V)} {ρ : Env} (r : Rep K C as H σ ρ) : ∀ a, H a = none → a ∉ as ++ C.N := fun a h => not_hid r h
end DL
namespace DL
open PySem PySem.Spec PyProof.Rows L2
variable {X : Cx} {C : Fx}
section
variable {K : PySem.W.Frag} {G H : Hp} {U as : List Addr} {σ : List (Option V)} {ρ : Env}
theorem RepS.any (r : RepS K G H U σ ρ as) (x : Option V) : ∀ {i : Nat}, ρ[i]? = some .un → RepS K G H U (σ.set i x) ρ as := by
  induction r with
  | nil => intro i e; simp at e
  | un t ih =>
    intro i e
    cases i with
    | zero => exact .un t
    | succ i => exact .un (ih (by simpa using e))
  | d h t ih =>
    intro i e
    cases i with
    | zero => simp at e
    | succ i => exact .d h (ih (by simpa using e))
  | obj h1 h2 h3 t ih =>
    intro i e
    cases i with
    | zero => simp at e
    | succ i => exact .obj h1 h2 h3 (ih (by simpa using e))
  | urn h1 h2 t ih =>
    intro i e
    cases i with
    | zero => simp at e
    | succ i => exact .urn h1 h2 (ih (by simpa using e))
end
section
variable {elt tg iter : Expr} {ifs : List Expr} {scope : Scope} {own : List (Str × Nat)} {pos : Pos} {wi : WI} {wg : WG} {wt : WT} {we : WD} {gs : List Nat}
theorem pts_imp {Y : Cx} {t t' : TT} (h : PTs Y ifs t) (i : ∀ σ H Q, t' σ H Q → t σ H Q) : PTs Y ifs t' := ⟨fun pins s σ H Q I q => h.run pins s σ H Q I (i σ H Q q)⟩
end
end DL
set_option maxHeartbeats 4000000
namespace PySem
open AutoSeq1
end PySem
namespace DL
open PySem PySem.Spec PyProof.Rows L2
variable {X : Cx} {C : Fx}
section
variable {i : Nat} {x : Str} {px apos cpos pos : Pos} {e : Expr} {we : WD}
end
section
variable {K : PySem.W.Frag} {G H : Hp} {U : List Addr}
end
end DL
namespace DL
open PySem PySem.Spec PyProof.Rows L2
variable {X : Cx} {C : Fx}
section
variable {a b : Expr} {rest : List Expr} {pos : Pos} {wa wb : WD}
end
section
variable {e : Expr} {we : WD} {x : Str} {p p2 p3 pos : Pos}
theorem kit_any2 {K : PySem.W.Frag} {t u u' : Value} {b b' : Bool} (h : PySem.W.kitOne K t u = some b) (h' : PySem.W.kitOne K t u' = some b') : PySem.W.kitAny K t [u, u'] = some (b || b') := by
  cases b <;> cases b' <;> simp [PySem.W.kitAny, h, h']
end
end DL
namespace DL
open PySem PySem.Spec PyProof.Rows L2
structure Df (P : Program) (w : World) (K : PySem.W.Frag) (mg : Str → Option Value) (base : Heap) (x : Str) (ps : List Str) (k : Nat) (sp : Sp) : Prop where
  ex : ∃ f fd, FnOk P w K mg base CX0 k f fd ps sp ∧ mg x = some (.ref f) ∧ PySem.W.keepIn K (.ref f) = true ∧ Binds K fd ps []
theorem Df.imp {P : Program} {w : World} {K : PySem.W.Frag} {mg : Str → Option Value} {base : Heap} {x : Str} {ps : List Str} {k : Nat} {sp sp' : Sp} (D : Df P w K mg base x ps k sp) (h : ∀ vs H Q E, sp' vs H Q E → sp vs H Q E) : Df P w K mg base x ps k sp' := by
  obtain ⟨f, fd, h1, h2, h3, h4⟩ := D.ex
  exact ⟨f, fd, h1.imp h, h2, h3, h4⟩
variable {X : Cx} {C : Fx}
section
variable {p pos : Pos} {e : Expr} {ws : WA}
end
end DL
namespace DL
open PySem PySem.Spec PyProof.Rows L2
variable {X : Cx} {C : Fx}
mutual
def sz : PyData → Nat
  | .list xs => 1 + szs xs
  | .tuple xs => 1 + szs xs
  | _ => 1
def szs : List PyData → Nat
  | [] => 0
  | x :: xs => sz x + szs xs
end
end DL
namespace DL
open PySem PySem.Spec PyProof.Rows L2
def Fl (C : Fx) (p : Addr) (as : List Addr) (H : Hp) : Fx := ⟨p :: C.N, hide H as, C.U⟩
section
variable {K : PySem.W.Frag} {C : Fx} {as : List Addr} {H H2 : Hp} {σ : List (Option V)} {ρ ρ2 : Env} {p : Addr} {xs : List V} {ds : List PyData}
theorem Rep.float (r : Rep K C as H σ ρ) (hp : H p = none) : Rep K (Fl C p as (upd H p (.lst xs))) as (upd H p (.lst xs)) σ ρ ∧ Same (hide H (as ++ C.N)) (hide (upd H p (.lst xs)) (as ++ p :: C.N)) := by
  have pn : p ∉ as ++ C.N := not_hid r hp
  have pas : p ∉ as := fun z => pn (List.mem_append_left _ z)
  have pU : p ∉ C.U := fun z => pn (List.mem_append_right _ (r.unn p z).1)
  have s0 : Same (hide H (as ++ C.N)) (hide (upd H p (.lst xs)) (as ++ p :: C.N)) := fun b o h => by
    obtain ⟨c, h⟩ := hide_some h
    have bp : b ≠ p := fun z => by rw [z, hp] at h; cases h
    rw [hide_out]
    · rw [upd_ne bp]; exact h
    · intro z
      rcases List.mem_append.mp z with z | z
      · exact c (List.mem_append_left _ z)
      · rcases List.mem_cons.mp z with z | z
        · exact bp z
        · exact c (List.mem_append_right _ z)
  refine ⟨⟨r.rep.mono s0 (fun a ha => upd_ne fun (z : a = p) => pas (z ▸ ha)) (fun u n hu hq => hq.move (upd_ne fun (z : u = p) => pU (z ▸ hu))), fun b o _ h => hide_same _ as b o h, fun a ha => hide_in ha, fun a ha => ?_, fun u hu => ⟨List.mem_cons_of_mem _ (r.unn u hu).1, (Keep.new (l := []) hp _).all u (r.unn u hu).2⟩⟩, s0⟩
  show hide (upd H p (.lst xs)) as a ≠ none
  rcases List.mem_cons.mp ha with z | z
  · rw [z, hide_out pas, upd_same]
    exact fun z => by cases z
  · rw [hide_out (fun q => r.hid a z (r.own a q))]
    exact (Keep.new (l := []) hp _).all a fun e => not_hid r e (List.mem_append_right _ z)
theorem Rep.land (r : Rep K C as H σ ρ) (hp : H p = none) (r2 : Rep K (Fl C p as (upd H p (.lst xs))) as H2 σ ρ2) (k : Keep (as ++ p :: C.N) (upd H p (.lst xs)) H2) (hd : DqAll K (hide H (as ++ C.N)) xs ds) (i : Nat) :
    ∃ as', Rep K C as' H2 (σ.set i (some (.ref p))) (ρ2.set i (.own ds)) ∧ Step C as H as' H2 ∧ Same (hide H2 (as ++ p :: C.N)) (hide H2 (as' ++ C.N)) := by
  obtain ⟨_, s0⟩ := r.float (xs := xs) hp
  have pn : p ∉ as ++ C.N := not_hid r hp
  have pas : p ∉ as := fun z => pn (List.mem_append_left _ z)
  have pU : p ∉ C.U := fun z => pn (List.mem_append_right _ (r.unn p z).1)
  have at_p : H2 p = some (.lst xs) := r2.ent p _ pU (by
    show hide (upd H p (.lst xs)) as p = _
    rw [hide_out pas]; exact upd_same)
  have ks : Same (hide (upd H p (.lst xs)) (as ++ p :: C.N)) (hide H2 (as ++ p :: C.N)) := k.see
  obtain ⟨as', q1, q2⟩ := r2.rep.set (x := some (.ref p)) (sl := .own ds) (new := [p]) (fun t ht => .obj at_p (.lst (dps_mono (s0.trans ks) hd)) (ht p (List.mem_singleton.mpr rfl)) t) i (fun a ha => by rw [List.mem_singleton.mp ha]; exact pas)
  have sub : ∀ a ∈ as' ++ C.N, a ∈ as ++ p :: C.N := fun a z => by
    rcases List.mem_append.mp z with z | z
    · rcases q2 a z with y | y
      · rw [List.mem_singleton.mp y]
        exact List.mem_append_right _ (List.mem_cons_self ..)
      · exact List.mem_append_left _ y
    · exact List.mem_append_right _ (List.mem_cons_of_mem _ z)
  have up : Same (hide H2 (as ++ p :: C.N)) (hide H2 (as' ++ C.N)) := hide_sub sub
  have keep : ∀ b o, b ∉ as → b ∉ C.U → H b = some o → H2 b = some o := fun b o ha hU h => r2.ent b o hU (by
    show hide (upd H p (.lst xs)) as b = some o
    rw [hide_out ha]; exact same_new hp _ b o h)
  have hpN : C.He p = none := by
    cases e : C.He p with
    | none => rfl
    | some o =>
      have := r.ent p o pU e
      rw [hp] at this; cases this
  refine ⟨as', ⟨q1.mono up (fun _ _ => rfl) (fun _ _ _ h => h), fun b o hb e => ?_, fun a z => ?_, r.hid, fun u hu => ⟨(r.unn u hu).1, (r2.unn u hu).2⟩⟩, ⟨fun a o ha h => ?_, fun a z => ?_, fun a h => k.all a ((Keep.new (l := []) hp _).all a h)⟩, up⟩
  · exact keep b o (fun z => by rw [r.own b z] at e; cases e) hb (r.ent b o hb e)
  · rcases q2 a z with y | y
    · rw [List.mem_singleton.mp y]; exact hpN
    · exact r.own a y
  · have s1 := (s0.trans ks) a o (by rw [hide_out ha]; exact h)
    exact (hide_some s1).2
  · rcases q2 a z with y | y
    · rw [List.mem_singleton.mp y]; exact .inr hp
    · exact .inl y
end
variable {X : Cx} {C : Fx}
end DL
namespace DL
open PySem PySem.Spec PyProof.Rows L2
variable {X : Cx} {C : Fx}
section
variable {K : PySem.W.Frag} {as : List Addr} {H : Hp} {σ : List (Option V)} {ρ : Env}
end
end DL
namespace DL
open PySem PySem.Spec PyProof.Rows L2
variable {X : Cx} {C : Fx}
end DL
namespace DL
open PySem PySem.Spec PyProof.Rows L2
section
variable {κ : Type} [DecidableEq κ]
variable {K : PySem.W.Frag} {G : Hp}
end
end DL
namespace DL
open PySem PySem.Spec PyProof.Rows L2
variable {X : Cx} {C : Fx}
end DL
namespace DL
open PySem PySem.Spec PyProof.Rows L2
section
variable {X : Cx} {C : Fx} {tg e : Expr} {p p2 pos pos2 tpos : Pos} {kk : Nat} {elts : List Expr}
end
end DL
namespace DL
open PySem PySem.Spec PyProof.Rows L2
theorem pmk_own0 {X : Cx} {C : Addr} {bmB : List Value} {B newId initId : String} {x : Str} {p pos : Pos} (F : ExcBaseFacts B newId initId bmB) (q : PySem.W.excIn X.K C bmB newId = true) (gC : X.mg x = some (.ref C)) (kC : PySem.W.keepIn X.K (.ref C) = true) (r : Raises X (.ref C)) (hg : Gl X x)
    (hdb : (x == ("__debug__" : Str)) = false := by decide) : PMk X (.Call (.Name x p) [] [] pos) (fun _ H Q => Q (.ref C) none H) := by
  intro pins s σ H Q I h
  refine wpAny_Call_Name_kw (ld_glob I hg gC ?_ hdb)
  refine PySem.W.callWith_K0 I.kIn kC ?_
  show wpAny _ _ (call (.ref C) []) _ _ _
  obtain ⟨bm, N, nm, qn, bs, hdct, sn, sub, ab, col, dd, k0, k1, k2, k3, k5, mN, hC, hN, hni, T⟩ := exc_obj I.kIn q
  refine wpAny_call_exc_subT F T hC hN hni (fun h' e hm => ?_) (Nat.zero_le _)
  exact mk_of I hm r h (I.hok.gone hm.new)
abbrev RF := List PyData → (PyData → Prop) → (Value → Prop) → Prop
def spR (K : PySem.W.Frag) (rf : RF) : Sp := fun vs H Q E => ∃ N ds k ke, (∀ a ∈ N, H a ≠ none) ∧ DqAll K (hide H N) vs ds ∧ rf ds k ke ∧
  (∀ d v H', k d → Same H H' → Dq K (hide H' N) v d → Q v H') ∧ ∀ cls H', ke cls → Same H H' → E cls none H'
variable {X : Cx} {C : Fx}
structure DfR (P : Program) (w : World) (K : PySem.W.Frag) (mg : Str → Option Value) (base : Heap) (x : Str) (ps : List Str) (k : Nat) (rf : RF) : Prop where
  ex : ∃ f fd, FnOk P w K mg base (L2.CX P w) k f fd ps (spR K rf) ∧ mg x = some (.ref f) ∧ PySem.W.keepIn K (.ref f) = true ∧ Binds K fd ps []
inductive DHs (X : Cx) (C : Fx) : List ExceptHandler → List (Value × WS) → Prop
  | nil : DHs X C [] []
  | cons {x : Str} {c : Value} {w : WS} {b₀ : Stmt} {suite : List Stmt} {np pos' : Pos} {hds : List ExceptHandler} {l : List (Value × WS)} (hc : Names X x c)
      (hsu : ∀ (a : Addr) (oe : Obj) (pn : List (Addr × Obj)), PDSs (X.suite a ((a, oe) :: pn)) C (b₀ :: suite) w) (r : DHs X C hds l) : DHs X C (.ExceptHandler (some (.Name x np)) none (b₀ :: suite) pos' :: hds) ((c, w) :: l)
theorem DHs.ok {hds : List ExceptHandler} {l : List (Value × WS)} (h : DHs X C hds l) : HdsOk X hds (l.map fun q => (q.1, fun _ _ _ => tDS X.K C q.2)) := by
  induction h with
  | nil => exact .nil
  | cons hc hsu r ih => exact .cons hc (fun a oe cls d pn _ _ => hsu a oe pn) ih
end DL
namespace DL
open PySem PySem.Spec PyProof.Rows L2
variable {X : Cx} {C : Fx}
end DL
namespace DL
open PySem PySem.Spec PyProof.Rows L2
variable {X : Cx} {C : Fx}
end DL
namespace DL
open PySem PySem.Spec PyProof.Rows L2
section
variable {l : Addr} {items : Array Value} {n : Nat} {dd : Option Addr} {sl : Array (Option Value)} {x : Int} {u : Tok}
theorem mul_same (c0 : (decide (x < -(2 ^ 63)) || decide (x ≥ 2 ^ 63)) = false) (c1 : (items.isEmpty || x == 1) = true) :
    Meets (Builtin.«tuple.__mul__» ⟨[.ref l, .int x u], []⟩) (fun _ R s => s.heap.get? l = some { cls := .type "tuple", dict := dd, data := .seq items n, slots := sl } ∧ R (.ok (.ret (.ref l))) s) :=
  .of_wp fun prog w A R s ⟨hl, h⟩ => by
    obtain ⟨hp, g, d, tk, os⟩ := s
    have f1 := AutoSeq1.idx_int
    wp_walk using wpAny_loadPart' hl
    refine wpAny_ite_false (decide_eq_false (by rw [c0]; exact Bool.false_ne_true)) ?_
    wp_walk using wpAny_loadPart' hl
    exact ⟨_, rfl, h⟩
theorem mul_none (c0 : (decide (x < -(2 ^ 63)) || decide (x ≥ 2 ^ 63)) = false) (c1 : (items.isEmpty || x == 1) = false) (c2 : (decide (x ≤ 0) || items.isEmpty) = true) :
    Meets (Builtin.«tuple.__mul__» ⟨[.ref l, .int x u], []⟩) (fun _ R s => s.heap.get? l = some { cls := .type "tuple", dict := dd, data := .seq items n, slots := sl } ∧
      R (.ok (.ret (.ref s.heap.objs.size))) { s with heap := s.heap.push { cls := .type "tuple", data := .seq #[] }, toks := s.toks }) :=
  .of_wp fun prog w A R s ⟨hl, h⟩ => by
    obtain ⟨hp, g, d, tk, os⟩ := s
    have f1 := AutoSeq1.idx_int
    wp_walk using wpAny_loadPart' hl
    refine wpAny_ite_false (decide_eq_false (by rw [c0]; exact Bool.false_ne_true)) ?_
    wp_walk using wpAny_loadPart' hl
    exact ⟨_, rfl, h⟩
end
def rMulT (K : PySem.W.Frag) : R2 := fun x y H Q => ∃ l k xs, x = .ref l ∧ y = .int k ∧ SqT K H l xs ∧ -1000000 ≤ k ∧ k ≤ 1000 ∧ xs.length ≤ 1000 ∧ (xs = [] ∨ k = 1 → Q (.ref l) H) ∧
  (xs ≠ [] → k ≠ 1 → ∀ p, H p = none → Q (.ref p) (upd H p (.tup (List.replicate k.toNat xs).flatten)))
theorem op_mulT {X : Cx} : OpR X (binaryOp .Mult) (rMulT X.K) := by
  intro pins s σ H x y v u Q I rx ry h
  obtain ⟨l, k, xs, rfl, rfl, hT, h1, h2, hz, q1, q2⟩ := h
  by_cases c : xs ≠ [] ∧ 2 ≤ k
  · exact op_repT pins s σ H _ _ v u Q I rx ry ⟨l, k, xs, rfl, rfl, hT, c.1, c.2, h2, hz, q2 c.1 (by omega)⟩
  cases rx
  obtain ⟨t, rfl⟩ := ry
  obtain ⟨its, r, ⟨⟨cls, dd, data, sl⟩, ho, hc, n, hd⟩, hs⟩ := I.tuple hT
  simp only at hc hd
  subst hc hd
  have hle : its.length = xs.length := r.length.symm
  have c0 : (decide (k < -(2 ^ 63)) || decide (k ≥ 2 ^ 63)) = false := by
    rw [decide_eq_false (by omega), decide_eq_false (by omega)] <;> rfl
  have hi : its.toArray.isEmpty = xs.isEmpty := by
    cases its with
    | nil =>
      cases xs with
      | nil => rfl
      | cons a b => simp at hle
    | cons a b =>
      cases xs with
      | nil => simp at hle
      | cons a b => rfl
  by_cases e : xs = [] ∨ k = 1
  · have c1 : (its.toArray.isEmpty || k == 1) = true := by
      rw [hi]
      rcases e with e | e
      · rw [e]; rfl
      · rw [e]; simp
    refine wpAny_binaryOp_repeat_ref (T := "tuple") (U := "int") (by decide) ⟨_, ho, rfl⟩ (fun s' => typeIs_int s' k t) noFill_tuple_mul F.fills_int_mul F.slot_int_rmul repeat_tuple F.slot_int_index.lookup
      (call_meets F.slot_int_rmul (typeIs_int s k t) F.entry_int_rmul (F.args_int_rmul_2 _ _) (int_rmul_tuple k t l its.toArray n dd sl)
        ⟨ho, rfl, ⟨_, ho, rfl⟩, call_meets F.slot_tuple_mul ⟨_, ho, rfl⟩ F.entry_tuple_mul (F.args_tuple_mul_2 _ _) (mul_same c0 c1) ⟨ho, ?_⟩⟩)
    exact ⟨.ref l, H, I, rfl, q1 e⟩
  · have hne : xs ≠ [] := fun z => e (.inl z)
    have hk1 : k ≠ 1 := fun z => e (.inr z)
    have hk0 : k ≤ 0 := by
      by_cases z : 2 ≤ k
      · exact absurd ⟨hne, z⟩ c
      · omega
    have hxe : xs.isEmpty = false := by
      cases xs with
      | nil => exact absurd rfl hne
      | cons a b => rfl
    have c1 : (its.toArray.isEmpty || k == 1) = false := by
      rw [hi, hxe, Bool.false_or]
      exact beq_eq_false_iff_ne.mpr hk1
    have c2 : (decide (k ≤ 0) || its.toArray.isEmpty) = true := by rw [decide_eq_true hk0, Bool.true_or]
    refine wpAny_binaryOp_repeat_ref (T := "tuple") (U := "int") (by decide) ⟨_, ho, rfl⟩ (fun s' => typeIs_int s' k t) noFill_tuple_mul F.fills_int_mul F.slot_int_rmul repeat_tuple F.slot_int_index.lookup
      (call_meets F.slot_int_rmul (typeIs_int s k t) F.entry_int_rmul (F.args_int_rmul_2 _ _) (int_rmul_tuple k t l its.toArray n dd sl)
        ⟨ho, rfl, ⟨_, ho, rfl⟩, call_meets F.slot_tuple_mul ⟨_, ho, rfl⟩ F.entry_tuple_mul (F.args_tuple_mul_2 _ _) (mul_none c0 c1 c2) ⟨ho, ?_⟩⟩)
    have q3 := q2 hne hk1
    rw [show k.toNat = 0 by omega] at q3
    refine ⟨.ref s.heap.objs.size, _, I.laid (t' := s.toks) (o := .tup []) (fun b ob q => Heap.get?_push_of_some _ q) (Nat.le_refl _) ?_, rfl, q3 _ (I.hok.fresh (Nat.le_refl _))⟩
    exact ⟨Nat.zero_le _, [], .nil, IsTup.new _ _⟩
end DL
set_option maxHeartbeats 2000000
namespace EV
open PySem PySem.Spec PyProof.Rows L2
section
variable {X : Cx} {B : Bx} {G : GC} {a b c e : Expr} {es : List Expr} {fa fb fc f : FE} {fs : FA} {pos p : Pos} {j : Nat}
theorem rw_int {m : Nat → Addr} {n : Nat} {H : Hp} {i : Int} {v : V} (r : RW G m n H (.int i) v) : v = .int i := by cases r; rfl
theorem rw_str {m : Nat → Addr} {n : Nat} {H : Hp} {x : Str} {v : V} (r : RW G m n H (.str x) v) : v = .str x := by cases r; rfl
theorem rw_non {m : Nat → Addr} {n : Nat} {H : Hp} {v : V} (r : RW G m n H .non v) : v = .non := by cases r; rfl
theorem rw_tup {m : Nat → Addr} {n : Nat} {H : Hp} {ws : List W} {v : V} (r : RW G m n H (.tup ws) v) : ∃ a xs, v = .ref a ∧ SqT G.K H a xs ∧ RWs G m n H ws xs := by cases r with | tup s q => exact ⟨_, _, rfl, s, q⟩
theorem rw_ref {m : Nat → Addr} {n i : Nat} {H : Hp} {v : V} (r : RW G m n H (.ref i) v) : v = .ref (m i) ∧ i < n := by cases r with | ref _ h => exact ⟨rfl, h⟩
theorem rws_one {m : Nat → Addr} {n : Nat} {H : Hp} {w : W} {vs : List V} (r : RWs G m n H [w] vs) : ∃ v, vs = [v] ∧ RW G m n H w v := by
  cases r with
  | cons a b => cases b; exact ⟨_, rfl, a⟩
theorem rws_two {m : Nat → Addr} {n : Nat} {H : Hp} {w u : W} {vs : List V} (r : RWs G m n H [w, u] vs) : ∃ v x, vs = [v, x] ∧ RW G m n H w v ∧ RW G m n H u x := by
  cases r with
  | cons a b =>
    obtain ⟨x, rfl, q⟩ := rws_one b
    exact ⟨_, x, rfl, a, q⟩
def gI (c : Int → Int → Bool) (g : Int → Int → Int) : W → W → Hpe → Res W
  | .int i, .int j, h => bif c i j then .ok (.int (g i j)) h else .no
  | _, _, _ => .no
theorem os_I {C : Int → Int → Prop} {c : Int → Int → Bool} {g : Int → Int → Int} (hc : ∀ i j, c i j = true → C i j) : OpS G (rI C fun i j => .int (g i j)) (gI c g) := by
  intro cl Wx m h H a b x y Q rh ra rb o
  cases a <;> try exact o.elim
  cases b <;> try exact o.elim
  rename_i i j
  obtain rfl := rw_int ra
  obtain rfl := rw_int rb
  simp only [gI] at o
  cases q : c i j with
  | false => rw [q] at o; exact o.elim
  | true => rw [q] at o; exact ⟨i, j, rfl, rfl, hc i j q, o m H _ rh Mv.refl (.int _)⟩
def gAdd : W → W → Hpe → Res W
  | .int i, .int j, h => .ok (.int (i + j)) h
  | .tup xs, .tup ys, h => bif line (xs.length + ys.length) then .ok (.tup (xs ++ ys)) h else .no
  | .str x, .str y, h => bif line (x.length + y.length) then .ok (.str (x ++ y)) h else .no
  | .ref i, .ref j, h => match rdL h i, rdL h j with
    | some xs, some ys => bif line (xs.length + ys.length) then h.al (.lst (xs ++ ys)) else .no
    | _, _ => .no
  | _, _, _ => .no
abbrev rAddE (K : PySem.W.Frag) : R2 := fun x y H Q => (rI0 fun i j => .int (i + j)) x y H Q ∨ ((rCatA K x y H Q ∨ DL.rCatL K x y H Q) ∨ (∃ i j, x = V.str i ∧ y = V.str j ∧ i.length + j.length ≤ sizeLine ∧ Q (.str (i ++ j)) H))
theorem op_addE : OpR X (binaryOp .Add) (rAddE X.K) := OpR.or op_add (OpR.or (OpR.or op_catA DL.op_catL) op_add_str)
theorem os_add : OpS G (rAddE G.K) gAdd := by
  intro cl Wx m h H a b x y Q rh ra rb o
  cases a with
  | int i =>
    cases b <;> try exact o.elim
    rename_i j
    obtain rfl := rw_int ra
    obtain rfl := rw_int rb
    exact .inl ⟨i, j, rfl, rfl, o m H _ rh Mv.refl (.int _)⟩
  | tup xs =>
    cases b <;> try exact o.elim
    rename_i ys
    obtain ⟨a, vs, rfl, s1, q1⟩ := rw_tup ra
    obtain ⟨b, us, rfl, s2, q2⟩ := rw_tup rb
    simp only [gAdd] at o
    cases c : line (xs.length + ys.length) with
    | false => rw [c] at o; exact o.elim
    | true =>
      rw [c] at o
      have o : Out G cl (RW G) Wx m h H (.ok (.tup (xs ++ ys)) h) Q := o
      refine .inr (.inl (.inl ⟨a, b, vs, us, rfl, rfl, s1, s2, by rw [← q1.len, ← q2.len]; exact line_le c, fun e => ?_, fun e1 e => ?_, fun e1 e p hp => tup_ok rh o (q1.app q2) p hp⟩))
      · subst e
        have := q1.len
        cases xs with
        | nil => exact o m H _ rh Mv.refl (.tup s2 q2)
        | cons _ _ => simp at this
      · subst e
        have := q2.len
        cases ys with
        | nil => exact o m H _ rh Mv.refl (.tup s1 (by rw [List.append_nil]; exact q1))
        | cons _ _ => simp at this
  | str x =>
    cases b <;> try exact o.elim
    rename_i y
    obtain rfl := rw_str ra
    obtain rfl := rw_str rb
    simp only [gAdd] at o
    cases c : line (x.length + y.length) with
    | false => rw [c] at o; exact o.elim
    | true => rw [c] at o; exact .inr (.inr ⟨x, y, rfl, rfl, line_le c, o m H _ rh Mv.refl (.str _)⟩)
  | ref i =>
    cases b <;> try exact o.elim
    rename_i j
    obtain ⟨rfl, hi⟩ := rw_ref ra
    obtain ⟨rfl, hj⟩ := rw_ref rb
    simp only [gAdd] at o
    split at o
    · rename_i xs ys e1 e2
      obtain ⟨vs, s1, q1⟩ := rh.rd hi e1
      obtain ⟨us, s2, q2⟩ := rh.rd hj e2
      cases c : line (xs.length + ys.length) with
      | false => rw [c] at o; exact o.elim
      | true => rw [c] at o; exact .inr (.inl (.inr ⟨_, _, vs, us, rfl, rfl, s1, s2, by rw [← q1.len, ← q2.len]; exact line_le c, al_ok rh o (.lst (q1.app q2))⟩))
    · exact o.elim
  | _ => exact o.elim
theorem se_add (hK : X.K = B.G.K) (ha : SE X B a fa) (hb : SE X B b fb) : SE X B (.BinOp a .Add b pos) (e2 gAdd fa fb) := se_op (r := rAddE B.G.K) (by rw [← hK]; exact op_addE) os_add ha hb
def cMul (i j : Int) : Bool := (decide (-18446744073709551616 < i) && decide (i < 18446744073709551616)) || (decide (-18446744073709551616 < j) && decide (j < 18446744073709551616))
theorem cMul_ok (i j : Int) (h : cMul i j = true) : CMul i j := by
  simp only [cMul, Bool.or_eq_true, Bool.and_eq_true, decide_eq_true_eq] at h
  rcases h with h | h
  · exact .inl ⟨by omega, by omega⟩
  · exact .inr ⟨by omega, by omega⟩
theorem se_mod (ha : SE X B a fa) (hb : SE X B b fb) : SE X B (.BinOp a .Mod b pos) (e2 (gI (fun _ j => decide (0 < j)) fun i j => i % j) fa fb) := se_op op_mod (os_I fun _ j h => of_decide_eq_true h) ha hb
def toD : Nat → Hpe → W → Option PyData
  | 0, _, _ => none
  | k + 1, h, w => match w with
    | .non => some .none
    | .bl b => some (.bool b)
    | .int i => some (.int i)
    | .str x => some (.str x)
    | .tup ws => match mapO (toD k h) ws with
      | none => none
      | some ds => some (.tuple ds)
    | .ref i => match rdL h i with
      | none => none
      | some ws => match mapO (toD k h) ws with
        | none => none
        | some ds => some (.list ds)
    | .df _ => none
    | .clo _ _ => none
theorem mapO_dp {m : Nat → Addr} {h : Hpe} {H : Hp} {f : W → Option PyData} (hf : ∀ w v d, RW G m h.nx H w v → f w = some d → Dp G.K H v d) : ∀ {ws : List W} {vs : List V} {ds : List PyData}, RWs G m h.nx H ws vs → mapO f ws = some ds → DpAll G.K H vs ds
  | _, _, _, .nil, e => by cases e; exact .nil
  | w :: ws, v :: vs, ds, .cons a b, e => by
    simp only [mapO] at e
    split at e
    · cases e
    · rename_i y ey
      split at e
      · cases e
      · rename_i ys eys
        cases e
        exact .cons (hf w v y a ey) (mapO_dp hf b eys)
theorem toD_dp {m : Nat → Addr} {h : Hpe} {H : Hp} (rh : RH G m h H) : ∀ (k : Nat) (w : W) (v : V) (d : PyData), RW G m h.nx H w v → toD k h w = some d → Dp G.K H v d
  | 0, _, _, _, _, e => by cases e
  | k + 1, w, v, d, r, e => by
    cases w with
    | non => cases e; obtain rfl := rw_non r; exact .non
    | bl b => cases e; obtain rfl := asB_ok r; exact .bl b
    | int i => cases e; obtain rfl := rw_int r; exact .int i
    | str x => cases e; obtain rfl := rw_str r; exact .str x
    | df _ => cases e
    | clo _ _ => cases e
    | tup ws =>
      simp only [toD] at e
      split at e
      · cases e
      · rename_i ds q
        cases e
        obtain ⟨a, xs, rfl, s, rs⟩ := rw_tup r
        exact .tup s (mapO_dp (toD_dp rh k) rs q)
    | ref i =>
      simp only [toD] at e
      split at e
      · cases e
      · rename_i ws q0
        split at e
        · cases e
        · rename_i ds q
          cases e
          obtain ⟨rfl, hi⟩ := rw_ref r
          obtain ⟨xs, s, rs⟩ := rh.rd hi q0
          exact .lst s (mapO_dp (toD_dp rh k) rs q)
def gEq (neg : Bool) : W → W → Hpe → Res W := fun a b h => match toD 70 h a, toD 70 h b with
  | some d, some e => bif SeqAt.shaped d && SeqAt.shaped e then .ok (.bl (neg != PyData.eqv d e)) h else .no
  | _, _ => .no
theorem os_eq : OpS G (rEqD G.K) (gEq false) := by
  intro cl Wx m h H a b x y Q rh ra rb o
  simp only [gEq] at o
  split at o
  · rename_i d e e1 e2
    cases c : SeqAt.shaped d && SeqAt.shaped e with
    | false => rw [c] at o; exact o.elim
    | true =>
      rw [c] at o
      have c' := (Bool.and_eq_true _ _).mp c
      refine ⟨d, e, toD_dp rh 70 a x d ra e1, toD_dp rh 70 b y e rb e2, c'.1, c'.2, ?_⟩
      have := o m H _ rh Mv.refl (.bl _)
      simpa using this
  · exact o.elim
theorem os_ne : OpS G (rNeD G.K) (gEq true) := by
  intro cl Wx m h H a b x y Q rh ra rb o
  simp only [gEq] at o
  split at o
  · rename_i d e e1 e2
    cases c : SeqAt.shaped d && SeqAt.shaped e with
    | false => rw [c] at o; exact o.elim
    | true =>
      rw [c] at o
      have c' := (Bool.and_eq_true _ _).mp c
      refine ⟨d, e, toD_dp rh 70 a x d ra e1, toD_dp rh 70 b y e rb e2, c'.1, c'.2, ?_⟩
      have := o m H _ rh Mv.refl (.bl _)
      simpa using this
  · exact o.elim
theorem se_eq (hK : X.K = B.G.K) (hu : X.A.units + 64 < cLine) (ha : SE X B a fa) (hb : SE X B b fb) : SE X B (.Compare a [.Eq] [b] pos) (e2 (gEq false) fa fb) := se_cmp (r := rEqD B.G.K) (by rw [← hK]; exact op_eqD hu) os_eq ha hb (nomark _)
theorem st_eq (hK : X.K = B.G.K) (hu : X.A.units + 64 < cLine) (ha : SE X B a fa) (hb : SE X B b fb) : ST X B (.Compare a [.Eq] [b] pos) (asB (e2 (gEq false) fa fb)) := st_cmp (r := rEqD B.G.K) (by rw [← hK]; exact op_eqD hu) os_eq ha hb (nomark _)
theorem st_ne (hK : X.K = B.G.K) (hu : X.A.units + 64 < cLine) (ha : SE X B a fa) (hb : SE X B b fb) : ST X B (.Compare a [.NotEq] [b] pos) (asB (e2 (gEq true) fa fb)) := st_cmp (r := rNeD B.G.K) (by rw [← hK]; exact op_neD hu) os_ne ha hb (nomark _)
def gIsN (neg : Bool) : W → W → Hpe → Res W := fun a b h => match b with
  | .non => .ok (.bl (neg != match a with | .non => true | _ => false)) h
  | _ => .no
theorem os_isN : OpS G (fun x y H Q => y = V.non ∧ Q (.bl (decide (x = .non))) H) (gIsN false) := by
  intro cl Wx m h H a b x y Q rh ra rb o
  cases b <;> try exact o.elim
  refine ⟨rw_non rb, ?_⟩
  have := o m H _ rh Mv.refl (.bl _)
  cases ra <;> simpa using this
theorem se_isN (ha : SE X B a fa) (hb : SE X B b fb) : SE X B (.Compare a [.Is] [b] pos) (e2 (gIsN false) fa fb) := se_cmp op_isN os_isN ha hb (nomark _)
theorem st_isN (ha : SE X B a fa) (hb : SE X B b fb) : ST X B (.Compare a [.Is] [b] pos) (asB (e2 (gIsN false) fa fb)) := st_cmp op_isN os_isN ha hb (nomark _)
abbrev FO := Rho → Hpe → Res (Option Int)
abbrev RO' : (Nat → Addr) → Nat → Hp → Option Int → Option Int → Prop := fun _ _ _ a b => a = b
def tO (B : Bx) (f : FO) : TO := fun σ H Q => ∃ m h ρ, SS B.G B.cf m h ρ σ H ∧ Out B.G B.cl RO' (fun c d H' => B.W c d σ H') m h H (f ρ h) Q
def SO (X : Cx) (B : Bx) (e : Option Expr) (f : FO) : Prop := PO X e (tO B f)
theorem po_imp {e : Option Expr} {t t' : TO} (h : PO X e t) (i : ∀ σ H Q, t' σ H Q → t σ H Q) : PO X e t' := ⟨fun pins s σ H Q I q => h.run pins s σ H Q I (i σ H Q q)⟩
def oS (f : FE) : FO := fun ρ h => (f ρ h).bind fun w h1 => match w with
  | .int i => .ok (some i) h1
  | _ => .no
def oN : FO := fun _ h => .ok none h
theorem so_some (h : SE X B e f) : SO X B (some e) (oS f) := po_imp (po_some h) fun σ H Q ⟨m, h, ρ, s, o⟩ => ⟨m, h, ρ, s, (Out.bind s.rh o).mono fun v H1 ⟨w, m1, h1, r1, v1, q1, o1⟩ => by
  cases w <;> try exact o1.elim
  rename_i i
  obtain rfl := rw_int q1
  exact ⟨i, rfl, o1 m1 H1 _ r1 Mv.refl rfl⟩⟩
theorem so_none : SO X B none oN := po_imp po_none fun σ H Q ⟨m, h, ρ, s, o⟩ => o m H _ s.rh Mv.refl rfl
def cutW (ws : List W) (lo hi : Option Int) : List W := (ws.drop (HT.sIx ws.length 0 lo)).take (HT.sIx ws.length ws.length hi - HT.sIx ws.length 0 lo)
theorem cut_rw {m : Nat → Addr} {n : Nat} {H : Hp} {ws : List W} {vs : List V} (r : RWs G m n H ws vs) (lo hi : Option Int) : RWs G m n H (cutW ws lo hi) (cutV vs lo hi) := by
  unfold cutW cutV
  rw [← r.len]
  exact (r.drop _).take _
def eSl (f : FE) (fl fh : FO) : FE := fun ρ h => (f ρ h).bind fun w h1 => (fl ρ h1).bind fun lo h2 => (fh ρ h2).bind fun hi h3 => match w with
  | .tup ws => .ok (.tup (cutW ws lo hi)) h3
  | .ref n => match rdL h3 n with
    | some ws => h3.al (.lst (cutW ws lo hi))
    | none => .no
  | _ => .no
theorem cut_whole {α : Type} {ws : List W} {lo hi : Option Int} (h : HT.sIx ws.length 0 lo = 0 ∧ HT.sIx ws.length ws.length hi = ws.length) : cutW ws lo hi = ws := by
  unfold cutW
  rw [h.1, h.2, List.drop_zero, Nat.sub_zero, List.take_length]
theorem se_sl (hK : X.K = B.G.K) {lo hi : Option Expr} {p2 : Pos} {fl fh : FO} (he : SE X B e f) (hl : SO X B lo fl) (hh : SO X B hi fh) : SE X B (.Subscript e (.Slice lo hi none p2) pos) (eSl f fl fh) :=
  pe_imp (pe_slice (r := fun x lo hi H Q => rSlA B.G.K x lo hi H Q ∨ rSlL B.G.K x lo hi H Q) (by rw [← hK]; exact DL.sl_D) he hl hh) fun σ H Q ⟨m, h, ρ, s, o⟩ =>
    ⟨m, h, ρ, s, (Out.bind s.rh o).mono fun v H1 ⟨w, m1, h1, r1, v1, q1, o1⟩ => ⟨m1, h1, ρ, s.mv r1 v1, (Out.bind r1 o1).mono fun lo H2 ⟨lo', m2, h2, r2, v2, q2, o2⟩ => ⟨m2, h2, ρ, (s.mv r1 v1).mv r2 v2, (Out.bind r2 o2).mono fun hi H3 ⟨hi', m3, h3, r3, v3, q3, o3⟩ => by
      subst q2; subst q3
      have q1' := (q1.mono v2.old v2.le (v2.tupk r1)).mono v3.old v3.le (v3.tupk r2)
      cases w <;> try exact o3.elim
      · rename_i ws
        obtain ⟨a, vs, rfl, sq, q⟩ := rw_tup q1'
        refine .inl ⟨a, vs, rfl, sq, fun z => ?_, fun _ p hp => tup_ok r3 o3 (cut_rw q _ _) p hp⟩
        rw [← q.len] at z
        exact o3 m3 H3 _ r3 Mv.refl (by rw [cut_whole (α := W) z]; exact .tup sq q)
      · rename_i n
        obtain ⟨rfl, hn⟩ := rw_ref q1'
        simp only at o3
        split at o3
        · rename_i ws e0
          obtain ⟨vs, sq, q⟩ := r3.rd hn e0
          exact .inr ⟨_, vs, rfl, sq, al_ok r3 o3 (.lst (cut_rw q _ _))⟩
        · exact o3.elim⟩⟩⟩
end
end EV
namespace EV
open PySem PySem.Spec PyProof.Rows L2
inductive RS where
  | nx (ρ : Rho) (h : Hpe)
  | rt (w : W) (h : Hpe)
  | bk (ρ : Rho) (h : Hpe)
  | ct (ρ : Rho) (h : Hpe)
  | ex (x : Exc) (ρ : Rho) (h : Hpe)
  | no
abbrev FS := Rho → Hpe → RS
def RS.seq : RS → (Rho → Hpe → RS) → RS
  | .nx ρ h, k => k ρ h
  | r, _ => r
def bindS {α : Type} (r : Res α) (ρ : Rho) (k : α → Hpe → RS) : RS := match r with
  | .ok a h => k a h
  | .ex x h => .ex x ρ h
  | .no => .no
def OutS (B : Bx) (m : Nat → Addr) (h : Hpe) (H : Hp) (D : Ends) : RS → Prop
  | .nx ρ' h' => ∀ m' H' σ', SS B.G B.cf m' h' ρ' σ' H' → Mv m h.nx H m' h'.nx H' → D.nx σ' H'
  | .rt w h' => ∀ m' H' v, RH B.G m' h' H' → Mv m h.nx H m' h'.nx H' → RW B.G m' h'.nx H' w v → D.rt v H'
  | .bk ρ' h' => ∀ m' H' σ', SS B.G B.cf m' h' ρ' σ' H' → Mv m h.nx H m' h'.nx H' → D.bk σ' H'
  | .ct ρ' h' => ∀ m' H' σ', SS B.G B.cf m' h' ρ' σ' H' → Mv m h.nx H m' h'.nx H' → D.ct σ' H'
  | .ex x ρ' h' => ∀ m' H' σ' c d, SS B.G B.cf m' h' ρ' σ' H' → Mv m h.nx H m' h'.nx H' → ExR B.G B.cl m' h'.nx H' x c d → B.W c d σ' H'
  | .no => False
section
variable {α β : Type} {B : Bx} {R : (Nat → Addr) → Nat → Hp → α → β → Prop} {m m1 : Nat → Addr} {h h1 : Hpe} {H H1 : Hp} {D D' : Ends} {ρ : Rho} {σ : L2.St}
theorem OutS.shift {r : RS} (rh : RH B.G m h H) (rh1 : RH B.G m1 h1 H1) (mv : Mv m h.nx H m1 h1.nx H1) (o : OutS B m h H D r) : OutS B m1 h1 H1 D r := by
  have t : ∀ {m' n' H'}, Mv m1 h1.nx H1 m' n' H' → Mv m h.nx H m' n' H' := fun b => mv.trans (rh1.mv_ne mv) b
  cases r with
  | nx ρ' h' => exact fun m' H' σ' a b => o m' H' σ' a (t b)
  | rt w h' => exact fun m' H' v a b c => o m' H' v a (t b) c
  | bk ρ' h' => exact fun m' H' σ' a b => o m' H' σ' a (t b)
  | ct ρ' h' => exact fun m' H' σ' a b => o m' H' σ' a (t b)
  | ex x ρ' h' => exact fun m' H' σ' c d a b e => o m' H' σ' c d a (t b) e
  | no => exact o
theorem OutS.mono {r : RS} (o : OutS B m h H D r) (f1 : ∀ σ H, D.nx σ H → D'.nx σ H) (f2 : ∀ v H, D.rt v H → D'.rt v H) (f3 : ∀ σ H, D.bk σ H → D'.bk σ H) (f4 : ∀ σ H, D.ct σ H → D'.ct σ H) : OutS B m h H D' r := by
  cases r with
  | nx ρ' h' => exact fun m' H' σ' a b => f1 _ _ (o m' H' σ' a b)
  | rt w h' => exact fun m' H' v a b c => f2 _ _ (o m' H' v a b c)
  | bk ρ' h' => exact fun m' H' σ' a b => f3 _ _ (o m' H' σ' a b)
  | ct ρ' h' => exact fun m' H' σ' a b => f4 _ _ (o m' H' σ' a b)
  | ex x ρ' h' => exact o
  | no => exact o
theorem OutS.bind {r : Res α} {k : α → Hpe → RS} (s : SS B.G B.cf m h ρ σ H) (o : OutS B m h H D (bindS r ρ k)) :
    Out B.G B.cl R (fun c d H' => B.W c d σ H') m h H r fun v H1 => ∃ a m1 h1, RH B.G m1 h1 H1 ∧ Mv m h.nx H m1 h1.nx H1 ∧ R m1 h1.nx H1 a v ∧ OutS B m1 h1 H1 D (k a h1) := by
  cases r with
  | ok a h' => exact fun m' H' v a' b c => ⟨a, m', h', a', b, c, OutS.shift s.rh a' b o⟩
  | ex x h' => exact fun m' H' c d a b e => o m' H' σ c d (s.mv a b) b e
  | no => exact o
theorem OutS.seq {r : RS} {k : Rho → Hpe → RS} (s : RH B.G m h H) (o : OutS B m h H D (r.seq k)) :
    OutS B m h H { D with nx := fun σ' H' => ∃ m1 h1 ρ1, SS B.G B.cf m1 h1 ρ1 σ' H' ∧ Mv m h.nx H m1 h1.nx H' ∧ OutS B m1 h1 H' D (k ρ1 h1) } r := by
  cases r with
  | nx ρ' h' => exact fun m' H' σ' a b => ⟨m', h', ρ', a, b, OutS.shift s a.rh b o⟩
  | rt w h' => exact o
  | bk ρ' h' => exact o
  | ct ρ' h' => exact o
  | ex x ρ' h' => exact o
  | no => exact o
end
def tS (B : Bx) (f : FS) : TS := fun D σ H => ∃ m h ρ, SS B.G B.cf m h ρ σ H ∧ OutS B m h H D (f ρ h)
def SSt (X : Cx) (B : Bx) (st : Stmt) (f : FS) : Prop := PS X st (tS B f)
def SSs (X : Cx) (B : Bx) (st : List Stmt) (f : FS) : Prop := PSs X st (tS B f)
theorem ps_imp {X : Cx} {e : Stmt} {t t' : TS} (h : PS X e t) (i : ∀ D σ H, t' D σ H → t D σ H) : PS X e t' := ⟨fun pins s σ H D I q => h.run pins s σ H D I (i D σ H q)⟩
theorem pss_imp {X : Cx} {e : List Stmt} {t t' : TS} (h : PSs X e t) (i : ∀ D σ H, t' D σ H → t D σ H) : PSs X e t' := ⟨fun pins s σ H D I q => h.run pins s σ H D I (i D σ H q)⟩
abbrev FG := W → Rho → Hpe → RS
abbrev FGs := List W → Rho → Hpe → RS
def nxOnly (Q : L2.St → Hp → Prop) : Ends := { nx := Q, rt := fun _ _ => False }
def Oth (vs : List Nat) (σ' σ : L2.St) : Prop := σ'.length = σ.length ∧ ∀ j, j ∉ vs → σ'[j]? = σ[j]?
theorem Oth.refl {vs : List Nat} {σ : L2.St} : Oth vs σ σ := ⟨rfl, fun _ _ => rfl⟩
theorem Oth.set {vs : List Nat} {σ : L2.St} {i : Nat} {x : Option V} (hi : i ∈ vs) : Oth vs (σ.set i x) σ := ⟨List.length_set, fun j hj => List.getElem?_set_ne (fun z : i = j => hj (by rw [← z]; exact hi))⟩
theorem Oth.trans {us vs : List Nat} {σ σ1 σ2 : L2.St} (a : Oth us σ1 σ) (b : Oth vs σ2 σ1) : Oth (us ++ vs) σ2 σ :=
  ⟨b.1.trans a.1, fun j hj => (b.2 j fun z => hj (List.mem_append_right _ z)).trans (a.2 j fun z => hj (List.mem_append_left _ z))⟩
theorem Oth.sub {us vs : List Nat} {σ σ' : L2.St} (a : Oth us σ' σ) (h : ∀ i ∈ us, i ∈ vs) : Oth vs σ' σ := ⟨a.1, fun j hj => a.2 j fun z => hj (h j z)⟩
theorem Oth.wipe {vs : List Nat} {σ σ' : L2.St} (a : Oth vs σ' σ) : wipe σ' vs = wipe σ vs := by
  apply List.ext_getElem?
  intro j
  rw [DL.wipe_at, DL.wipe_at, a.1]
  by_cases c : j ∈ vs
  · by_cases d : j < σ.length
    · rw [if_pos ⟨c, d⟩, if_pos ⟨c, d⟩]
    · rw [if_neg (fun z => d z.2), if_neg (fun z => d z.2), List.getElem?_eq_none_iff.mpr (by rw [a.1]; omega), List.getElem?_eq_none_iff.mpr (by omega)]
  · rw [if_neg (fun z => c z.1), if_neg (fun z => c z.1), a.2 j c]
def tG (B : Bx) (f : FG) (vs : List Nat) : TG := fun v σ H Q => ∃ m h ρ w, SS B.G B.cf m h ρ σ H ∧ RW B.G m h.nx H w v ∧ OutS B m h H (nxOnly fun σ' H' => Oth vs σ' σ → Q σ' H') (f w ρ h)
def tGs (B : Bx) (f : FGs) (vs : List Nat) : TGs := fun us σ H Q => ∃ m h ρ ws, SS B.G B.cf m h ρ σ H ∧ RWs B.G m h.nx H ws us ∧ OutS B m h H (nxOnly fun σ' H' => Oth vs σ' σ → Q σ' H') (f ws ρ h)
def SG (X : Cx) (B : Bx) (e : Expr) (f : FG) (vs : List Nat) : Prop := PG X e (tG B f vs)
def SGs (X : Cx) (B : Bx) (es : List Expr) (f : FGs) (vs : List Nat) : Prop := PGs X es (tGs B f vs)
theorem pg_imp {X : Cx} {e : Expr} {t t' : TG} (h : PG X e t) (i : ∀ v σ H Q, t' v σ H Q → t v σ H Q) : PG X e t' := ⟨fun pins s σ H v u Q I r q => h.run pins s σ H v u Q I r (i v σ H Q q)⟩
theorem pgs_imp {X : Cx} {e : List Expr} {t t' : TGs} (h : PGs X e t) (i : ∀ v σ H Q, t' v σ H Q → t v σ H Q) : PGs X e t' := ⟨fun pins s σ H v u Q I r q => h.run pins s σ H v u Q I r (i v σ H Q q)⟩
section
variable {X : Cx} {B : Bx} {a b c e tg : Expr} {es tgs : List Expr} {st : Stmt} {sts : List Stmt} {fa fb fc f : FE} {ft : FT} {fs : FA} {s1 s2 : FS} {g : FG} {gs : FGs} {pos p : Pos} {j : Nat}
theorem SS.set {G : GC} {cf : CF} {m : Nat → Addr} {h : Hpe} {ρ : Rho} {σ : L2.St} {H : Hp} (s : SS G cf m h ρ σ H) {w : W} {v : V} (r : RW G m h.nx H w v) (i : Nat) : SS G cf m h (ρ.set i (some w)) (σ.set i (some v)) H :=
  ⟨s.rh, by rw [List.length_set, List.length_set]; exact s.len, fun k u e => by
    rw [List.getElem?_set] at e
    by_cases c : i = k
    · rw [if_pos c] at e
      split at e
      · rename_i hk
        cases e
        exact ⟨v, by rw [List.getElem?_set, if_pos c, if_pos (by rw [← s.len]; exact hk)], .rw r⟩
      · cases e
    · rw [if_neg c] at e
      obtain ⟨v', e', r'⟩ := s.sl k u e
      exact ⟨v', by rw [List.getElem?_set, if_neg c]; exact e', r'⟩⟩
def gN (i : Nat) : FG := fun w ρ h => .nx (setR ρ i (some w)) h
theorem sg_n {i : Nat} (h : PG X tg (gName i)) : SG X B tg (gN i) [i] := pg_imp h fun v σ H Q ⟨m, h, ρ, w, s, r, o⟩ => o m H _ (by rw [setR_eq]; exact s.set r i) Mv.refl (.set (List.mem_singleton.mpr rfl))
def gsN : FGs := fun ws ρ h => match ws with
  | [] => .nx ρ h
  | _ => .no
def gsC (g : FG) (gs : FGs) : FGs := fun ws ρ h => match ws with
  | w :: r => (g w ρ h).seq fun ρ' h' => gs r ρ' h'
  | [] => .no
variable {us vs : List Nat}
theorem sgs_nil : SGs X B [] gsN [] := pgs_imp pgs_nil fun v σ H Q ⟨m, h, ρ, ws, s, r, o⟩ => by
  cases ws with
  | nil => cases r; exact ⟨rfl, o m H _ s Mv.refl .refl⟩
  | cons _ _ => exact o.elim
theorem sgs_cons (h1 : SG X B tg g us) (h2 : SGs X B tgs gs vs) (hs : (assignEach (tg :: tgs) X.env).map (·.2) = assign tg X.env :: (assignEach tgs X.env).map (·.2)) : SGs X B (tg :: tgs) (gsC g gs) (us ++ vs) :=
  pgs_imp (pgs_cons h1 h2 hs) fun v σ H Q ⟨m, h, ρ, ws, s, r, o⟩ => by
    cases ws with
    | nil => exact o.elim
    | cons w ws =>
      cases r with
      | @cons _ _ u us ra rb =>
        exact ⟨u, us, rfl, m, h, ρ, w, s, ra, (OutS.seq s.rh o).mono (fun σ' H' ⟨m1, h1, ρ1, s1, v1, o1⟩ oth => ⟨m1, h1, ρ1, ws, s1, rb.mono v1.old v1.le (v1.tupk s.rh), o1.mono (fun σ2 H2 q oth2 => q (oth.trans oth2)) (fun _ _ z => z) (fun _ _ z => z) (fun _ _ z => z)⟩) (fun _ _ z => z) (fun _ _ z => z) (fun _ _ z => z)⟩
theorem beq_eq {a b : Nat} (h : Nat.beq a b = true) : a = b := Nat.eq_of_beq_eq_true h
def sNil : FS := fun ρ h => .nx ρ h
def sSeq (s1 s2 : FS) : FS := fun ρ h => (s1 ρ h).seq s2
theorem ss_nil : SSs X B [] sNil := pss_imp pss_nil fun D σ H ⟨m, h, ρ, s, o⟩ => o m H σ s Mv.refl
theorem ss_cons (h1 : SSt X B st s1) (h2 : SSs X B sts s2) : SSs X B (st :: sts) (sSeq s1 s2) :=
  pss_imp (pss_cons h1 h2) fun D σ H ⟨m, h, ρ, s, o⟩ => ⟨m, h, ρ, s, (OutS.seq s.rh o).mono (fun σ' H' ⟨m1, h1, ρ1, s1, v1, o1⟩ => ⟨m1, h1, ρ1, s1, o1⟩) (fun _ _ z => z) (fun _ _ z => z) (fun _ _ z => z)⟩
def sRt (f : FE) : FS := fun ρ h => bindS (f ρ h) ρ fun w h1 => .rt w h1
theorem ss_ret (he : SE X B e f) : SSt X B (.Return (some e) pos) (sRt f) :=
  ps_imp (ps_ret he) fun D σ H ⟨m, h, ρ, s, o⟩ => ⟨m, h, ρ, s, (OutS.bind s o).mono fun v H1 ⟨w, m1, h1, r1, v1, q1, o1⟩ => o1 m1 H1 v r1 Mv.refl q1⟩
def sIf (t : FT) (s1 s2 : FS) : FS := fun ρ h => bindS (t ρ h) ρ fun b h1 => bif b then s1 ρ h1 else s2 ρ h1
theorem ss_if {x y : List Stmt} (hc : ST X B c ft) (ha : SSs X B x s1) (hb : SSs X B y s2) : SSt X B (.If c x y pos) (sIf ft s1 s2) :=
  ps_imp (ps_if hc ha hb) fun D σ H ⟨m, h, ρ, s, o⟩ => ⟨m, h, ρ, s, (OutS.bind s o).mono fun v H1 ⟨w, m1, h1, r1, v1, q1, o1⟩ => by
    subst q1
    cases w with
    | true => rw [if_pos rfl]; exact ⟨m1, h1, ρ, s.mv r1 v1, o1⟩
    | false => rw [if_neg (by decide)]; exact ⟨m1, h1, ρ, s.mv r1 v1, o1⟩⟩
def RS.cl : RS → RS
  | .nx ρ h => .nx ρ h
  | .ex x ρ h => .ex x ρ h
  | _ => .no
theorem OutS.cl {m : Nat → Addr} {h : Hpe} {H : Hp} {D : Ends} {r : RS} (o : OutS B m h H D r.cl) : OutS B m h H (nxOnly D.nx) r := by
  cases r with
  | nx ρ' h' => exact o
  | ex x ρ' h' => exact o
  | no => exact o
  | rt w h' => exact o.elim
  | bk ρ' h' => exact o.elim
  | ct ρ' h' => exact o.elim
def sAs (f : FE) (g : FG) : FS := fun ρ h => bindS (f ρ h) ρ fun w h1 => (g w ρ h1).cl
theorem as_ok {D : Ends} {σ : L2.St} {H : Hp} (i : tS B (sAs f g) D σ H) : tAsg (tE B.G B.cf B.cl B.W f) (tG B g us) D σ H := by
  obtain ⟨m, h, ρ, s, o⟩ := i
  exact ⟨m, h, ρ, s, (OutS.bind s o).mono fun v H1 ⟨w, m1, h1, r1, v1, q1, o1⟩ => ⟨m1, h1, ρ, w, s.mv r1 v1, q1, o1.cl.mono (fun _ _ z _ => z) (fun _ _ z => z) (fun _ _ z => z) (fun _ _ z => z)⟩⟩
theorem ss_asg (he : SE X B e f) (hg : SG X B tg g us) (hs : swapsWithSole [tg] e pos.line X.env = pure false) (hw : swappedStores [tg] e X.env = pure none) (h1 : (assignEach [tg] X.env).map (·.2) = [assign tg X.env]) : SSt X B (.Assign [tg] e pos) (sAs f g) :=
  ps_imp (ps_asg he hg hs hw h1) fun D σ H i => as_ok i
theorem ss_set {i : Nat} {x : Str} {pos' : Pos} (hN : X.N.Nodup) (hi : X.N[i]? = some x) (hx : Loc X.env.scope x) (he : SE X B e f) (hs : swapsWith e (some (.Name x pos')) pos.line X.env = pure false) (hf : X.fn x = true ∨ X.env.scope.names.lookup x = some .local) :
    SSt X B (.Assign [.Name x pos'] e pos) (sAs f (gN i)) :=
  ps_imp (ps_set hN hi hx he hs hf) fun D σ H ⟨m, h, ρ, s, o⟩ => ⟨m, h, ρ, s, (OutS.bind s o).mono fun v H1 ⟨w, m1, h1, r1, v1, q1, o1⟩ => o1 m1 H1 _ (by rw [setR_eq]; exact (s.mv r1 v1).set q1 i) Mv.refl⟩
theorem loop_body {m : Nat → Addr} {h : Hpe} {H : Hp} {D : Ends} {r : RS} {k : Rho → Hpe → RS} (rh : RH B.G m h H) (o : OutS B m h H D (match r with
      | .nx ρ' h' => k ρ' h'
      | .ct ρ' h' => k ρ' h'
      | .bk ρ' h' => .nx ρ' h'
      | .rt w h' => .rt w h'
      | .ex x ρ' h' => .ex x ρ' h'
      | .no => .no)) :
    OutS B m h H { D with nx := fun σ' H' => ∃ m' h' ρ', SS B.G B.cf m' h' ρ' σ' H' ∧ Mv m h.nx H m' h'.nx H' ∧ OutS B m' h' H' D (k ρ' h'), ct := fun σ' H' => ∃ m' h' ρ', SS B.G B.cf m' h' ρ' σ' H' ∧ Mv m h.nx H m' h'.nx H' ∧ OutS B m' h' H' D (k ρ' h'), bk := D.nx } r := by
  cases r with
  | nx ρ' h' => exact fun m' H' σ' a b => ⟨m', h', ρ', a, b, OutS.shift rh a.rh b o⟩
  | ct ρ' h' => exact fun m' H' σ' a b => ⟨m', h', ρ', a, b, OutS.shift rh a.rh b o⟩
  | bk ρ' h' => exact o
  | rt w h' => exact o
  | ex x ρ' h' => exact o
  | no => exact o
abbrev Src := Hpe → Nat → Option (Option W)
def ItS (G : GC) (m : Nat → Addr) (n : Nat) (H0 : Hp) (src : Src) (J : It) : Prop := ∀ (m' : Nat → Addr) (h' : Hpe) (H' : Hp) (i : Nat), RH G m' h' H' → (∀ k, k < n → m' k = m k) → n ≤ h'.nx → TupK H0 H' → (∀ k, k < n → ∀ ob u, H0 (m k) = some (.frz ob u) → H' (m k) = some (.frz ob u)) →
  (src h' i = some none → J.stop i H') ∧ ∀ w, src h' i = some (some w) → J.go i H' ∧ ∀ x H'', J.yld i H' x H'' → RH G m' h' H'' ∧ Mv m' h'.nx H' m' h'.nx H'' ∧ RW G m' h'.nx H'' w x
abbrev FI := Rho → Hpe → Res Src
def tI (B : Bx) (f : FI) : TI := fun σ H R => ∃ m h ρ, SS B.G B.cf m h ρ σ H ∧ Out B.G B.cl (fun m n H src J => ItS B.G m n H src J) (fun c d H' => B.W c d σ H') m h H (f ρ h) R
def SI (X : Cx) (B : Bx) (tg iter : Expr) (f : FI) : Prop := PI X tg iter (tI B f)
theorem pi_imp {iter : Expr} {t t' : TI} (h : PI X tg iter t) (i : ∀ σ H R, t' σ H R → t σ H R) : PI X tg iter t' := ⟨fun pins s σ H R I q => h.run pins s σ H R I (i σ H R q)⟩
def srcT (ws : List W) : Src := fun _ i => match nthR ws i with
  | some w => some (some w)
  | none => some none
def srcL (n : Nat) : Src := fun h i => match rdL h n with
  | some ws => match nthR ws i with
    | some w => some (some w)
    | none => some none
  | none => none
def srcR (lo : Int) (n : Nat) : Src := fun _ i => bif Nat.blt i n then some (some (.int (lo + (i : Nat)))) else some none
theorem TupK.trans {H H1 H2 : Hp} (a : TupK H H1) (b : TupK H1 H2) : TupK H H2 := fun x xs q => b x xs (a x xs q)
theorem its_tup {G : GC} {m : Nat → Addr} {n : Nat} {H : Hp} {a : Addr} {xs : List V} {ws : List W} (q : SqT G.K H a xs) (r : RWs G m n H ws xs) : ItS G m n H (srcT ws) (Itt G.K a) := by
  intro m' h' H' i rh old le tk kf
  have q' := tk.seq q
  have r' := r.mono old le tk
  refine ⟨fun e => ?_, fun w e => ?_⟩
  · simp only [srcT, nthR_eq] at e
    split at e
    · cases e
    · rename_i z
      exact ⟨xs, q', by rw [← r.len]; exact List.getElem?_eq_none_iff.mp z⟩
  · simp only [srcT, nthR_eq] at e
    split at e
    · rename_i u z
      cases e
      obtain ⟨v, e1, rv⟩ := r'.get z
      refine ⟨⟨xs, v, q', e1⟩, fun x H'' ⟨e2, y⟩ => ?_⟩
      subst e2
      have := y xs q'
      rw [e1] at this; cases this
      exact ⟨rh, Mv.refl, rv⟩
    · cases e
theorem its_lst {G : GC} {m : Nat → Addr} {n i : Nat} {H : Hp} (hi : i < n) : ItS G m n H (srcL i) (Itl G.K (m i)) := by
  intro m' h' H' j rh old le tk kf
  refine ⟨fun e => ?_, fun w e => ?_⟩
  · simp only [srcL, nthR_eq] at e
    split at e
    · rename_i ws ew
      obtain ⟨xs, sq, q⟩ := rh.rd (Nat.lt_of_lt_of_le hi le) ew
      rw [old i hi] at sq
      split at e
      · cases e
      · rename_i z
        exact ⟨xs, sq, by rw [← q.len]; exact List.getElem?_eq_none_iff.mp z⟩
    · cases e
  · simp only [srcL, nthR_eq] at e
    split at e
    · rename_i ws ew
      obtain ⟨xs, sq, q⟩ := rh.rd (Nat.lt_of_lt_of_le hi le) ew
      rw [old i hi] at sq
      split at e
      · rename_i u z
        cases e
        obtain ⟨v, e1, rv⟩ := q.get z
        refine ⟨⟨xs, v, sq, e1⟩, fun x H'' ⟨e2, y⟩ => ?_⟩
        subst e2
        have := y xs sq
        rw [e1] at this; cases this
        exact ⟨rh, Mv.refl, rv⟩
      · cases e
    · cases e
theorem its_rng {G : GC} {m : Nat → Addr} {n : Nat} {H : Hp} (lo : Int) (k : Nat) : ItS G m n H (srcR lo k) (Itr lo k) := by
  intro m' h' H' j rh old le tk kf
  refine ⟨fun e => ?_, fun w e => ?_⟩
  · simp only [srcR] at e
    cases c : Nat.blt j k with
    | true => rw [c] at e; cases e
    | false =>
      have : ¬ j < k := fun z => by
        have : Nat.blt j k = true := Nat.ble_eq_true_of_le z
        rw [c] at this; cases this
      exact Nat.not_lt.mp this
  · simp only [srcR] at e
    cases c : Nat.blt j k with
    | false => rw [c] at e; cases e
    | true =>
      rw [c] at e
      cases e
      exact ⟨Nat.le_of_ble_eq_true c, fun x H'' ⟨e1, e2⟩ => by subst e1; subst e2; exact ⟨rh, Mv.refl, .int _⟩⟩
def cR (i : Int) : Bool := decide (-1000000 ≤ i) && decide (i ≤ 1000000)
def iR1 (fs : FA) : FI := fun ρ h => (fs ρ h).bind fun ws h1 => match ws with
  | [.int j] => bif cR j then .ok (srcR 0 j.toNat) h1 else .no
  | _ => .no
theorem cR_ok {i : Int} (h : cR i = true) : -(2 ^ 62) ≤ i ∧ i < 2 ^ 62 := by
  simp only [cR, Bool.and_eq_true, decide_eq_true_eq] at h
  omega
theorem si_r1 {q : Pos} (hg : Gl X "range") (hm : X.mg "range" = none) (ha : SA X B [a] fs) (hs : starEach [a] X.env = [(false, eval a X.env)]) : SI X B tg (.Call (.Name "range" p) [a] [] q) (iR1 fs) :=
  pi_imp (pi_range1 hg hm ha hs) fun σ H R ⟨m, h, ρ, s, o⟩ => ⟨m, h, ρ, s, (Out.bind s.rh o).mono fun vs H1 ⟨ws, m1, h1, r1, v1, q1, o1⟩ => by
    match ws, o1 with
    | [.int j], o1 =>
      obtain ⟨v, rfl, r⟩ := rws_one q1
      obtain rfl := rw_int r
      simp only at o1
      cases c : cR j with
      | false => rw [c] at o1; exact o1.elim
      | true => rw [c] at o1; exact ⟨j, rfl, (cR_ok c).1, (cR_ok c).2, o1 m1 H1 _ r1 Mv.refl (its_rng 0 _)⟩⟩
def forE (src : Src) (g : FG) (b : FS) : Nat → Nat → FS
  | 0, _, _, _ => .no
  | k + 1, i, ρ, h => match src h i with
    | none => .no
    | some none => .nx ρ h
    | some (some w) => match (match g w ρ h with
        | .nx ρ' h' => b ρ' h'
        | .ex x ρ' h' => .ex x ρ' h'
        | _ => .no) with
      | .nx ρ' h' => forE src g b k (i + 1) ρ' h'
      | .ct ρ' h' => forE src g b k (i + 1) ρ' h'
      | .bk ρ' h' => .nx ρ' h'
      | .rt w h' => .rt w h'
      | .ex x ρ' h' => .ex x ρ' h'
      | .no => .no
def sFor (fi : FI) (g : FG) (b : FS) : FS := fun ρ h => bindS (fi ρ h) ρ fun src h1 => forE src g b 1000000 0 ρ h1
theorem ss_for {iter : Expr} {x : List Stmt} {fi : FI} (hp : PassesOwn (model X.prog X.w) X.A X.env X.xe) (hc : X.calm = true) (hi : SI X B tg iter fi) (hg : SG X B tg g us) (hb : SSs X B x s1) (hs : ∀ x, foldedSetIterable iter X.env x = pure x) :
    SSt X B (.For tg iter x [] pos) (sFor fi g s1) :=
  ps_imp (ps_for hp hc hi hg hb hs) fun D σ H ⟨m, h, ρ, s, o⟩ => ⟨m, h, ρ, s, (OutS.bind s o).mono fun J H1 ⟨src, m1, h1, r1, v1, its, o1⟩ => by
    refine ⟨fun i k σ' H' => ∃ m' h' ρ', SS B.G B.cf m' h' ρ' σ' H' ∧ Mv m1 h1.nx H1 m' h'.nx H' ∧ OutS B m' h' H' D (forE src g s1 k i ρ' h'), ⟨1000000, m1, h1, ρ, s.mv r1 v1, Mv.refl, o1⟩, ?_⟩
    rintro i k σ2 H2 ⟨m2, h2, ρ2, s2', v2, o2⟩
    cases k with
    | zero => exact o2.elim
    | succ k =>
      obtain ⟨i1, i2⟩ := its m2 h2 H2 i s2'.rh v2.old v2.le (v2.tupk r1) v2.kf
      simp only [forE] at o2
      cases c : src h2 i with
      | none => rw [c] at o2; exact o2.elim
      | some c' =>
        rw [c] at o2
        cases c' with
        | none => exact .inl ⟨i1 c, o2 m2 H2 σ2 s2' Mv.refl⟩
        | some w =>
          obtain ⟨go, yl⟩ := i2 w c
          refine .inr ⟨go, fun σ' H' => ∃ m' h' ρ', SS B.G B.cf m' h' ρ' σ' H' ∧ Mv m1 h1.nx H1 m' h'.nx H' ∧ OutS B m' h' H' D (forE src g s1 k (i + 1) ρ' h'), fun σ' H' z => ⟨k, Nat.lt_succ_self k, z⟩, fun x H3 y => ?_⟩
          obtain ⟨r3, v3, q3⟩ := yl x H3 y
          have s3 := s2'.mv r3 v3
          have o3 := OutS.shift s2'.rh r3 v3 o2
          refine ⟨m2, h2, ρ2, w, s3, q3, ?_⟩
          have t23 : Mv m1 h1.nx H1 m2 h2.nx H3 := v2.trans (s2'.rh.mv_ne v2) v3
          cases q : g w ρ2 h2 with
          | nx ρ4 h4 =>
            simp only [q] at o3
            intro m4 H4 σ4 s4 v4 _
            have t4 := t23.trans (r3.mv_ne t23) v4
            refine ⟨m4, h4, ρ4, s4, ?_⟩
            refine (loop_body (k := fun ρ' h' => forE src g s1 k (i + 1) ρ' h') s4.rh (OutS.shift r3 s4.rh v4 o3)).mono (fun σ5 H5 ⟨m5, h5, ρ5, s5, v5, o5⟩ => ⟨m5, h5, ρ5, s5, t4.trans (s4.rh.mv_ne t4) v5, o5⟩) (fun _ _ z => z) (fun _ _ z => z) (fun σ5 H5 ⟨m5, h5, ρ5, s5, v5, o5⟩ => ⟨m5, h5, ρ5, s5, t4.trans (s4.rh.mv_ne t4) v5, o5⟩)
          | ex e ρ4 h4 => simp only [q] at o3; exact o3
          | no => simp only [q] at o3; exact o3
          | rt _ _ => simp only [q] at o3; exact o3.elim
          | bk _ _ => simp only [q] at o3; exact o3.elim
          | ct _ _ => simp only [q] at o3; exact o3.elim⟩
end
end EV
namespace EV
open PySem PySem.Spec PyProof.Rows L2
def spE (G : GC) (cl : Cls) (n : Nat) (g : List W → Hpe → Res W) : Sp := fun vs H Q E => ∃ m h ws, RH G m h H ∧ RWs G m h.nx H ws vs ∧ ws.length = n ∧ Out G cl (RW G) (fun c d H' => E c d H') m h H (g ws h) Q
structure FdOk (fd : FuncData) (t : CTx) (cl : List (Str × Addr)) (c : Addr) : Prop where
  qual : fd.qualname = t.qual
  scope : fd.scope = t.scope
  glob : fd.globals = mainGlobals
  clo : fd.closure = cl
  body : fd.body = t.body
  code : fd.code = .ref c
  blt : fd.builtins = builtinsNs
  bind : ∀ us : List Value, us.length = t.ps.length → bindArgs fd ⟨us, []⟩ = pure (t.ps.zip us)
def ClAt (G : GC) (t : CTx) (s : Shared) (H : Hp) (fs : List Addr) (f : Addr) (vs : List V) : Prop :=
  ∃ cl c o fd P pos ps, s.heap.get? f = some o ∧ H f = none ∧ f ∉ fs ∧ o.data = .func fd ∧ FdOk fd t cl c ∧ P ∈ G.ltabs ∧ H P = some (.tbl ps) ∧ codeAmong pos ps.toList = some (.ref c) ∧ G.nm pos.line pos.col = t.qual ∧
    NdefX.CellsAt cl t.fr (vs.map some) s.heap H ∧ ∀ y a, cl.lookup y = some a → a ∉ fs
def CfAt (G : GC) (s : Shared) (H : Hp) (fs : List Addr) : CF := fun k f vs => ∃ t, G.tx k = some t ∧ ClAt G t s H fs f vs
structure FnE (P : Program) (w : World) (K : PySem.W.Frag) (mg : Str → Option Value) (base : Heap) (k : Nat) (f : Addr) (fd : FuncData) (ps : List Str) (G : GC) (cl : Cls) (g : List W → Hpe → Res W) : Prop where
  run : ∀ (A : Around) (outer : List PySem.Env) (s : Shared) (H : Hp) (args : Args) (us : List Value) (vs : List V) (Q : VK) (E : XK), Room k A → Env0 P w K mg base A outer s H → BindsTo s fd args (ps.zip us) → Vals vs us →
    (∃ m h ws, RH G m h H ∧ RCs G (CfAt G s H (frs outer)) m h.nx H ws vs ∧ ws.length = ps.length ∧ Out G cl (RW G) (fun c d H' => E c d H') m h H (g ws h) Q) →
    codeAny (model P w) A (.call (.ref f) args) (CR (L2.CX P w) outer P w H s Q E) s
theorem FnE.ok {P : Program} {w : World} {K : PySem.W.Frag} {mg : Str → Option Value} {base : Heap} {k : Nat} {f : Addr} {fd : FuncData} {ps : List Str} {G : GC} {cl : Cls} {g : List W → Hpe → Res W} (F : FnE P w K mg base k f fd ps G cl g) : FnOk P w K mg base (L2.CX P w) k f fd ps (spE G cl ps.length g) :=
  ⟨fun vs H Q E ⟨m, h, ws, _, r, e, _⟩ => by rw [← r.len, e], fun A outer s H args us vs Q E hr e0 hb r ⟨m, h, ws, rh, rs, e, o⟩ => F.run A outer s H args us vs Q E hr e0 hb r ⟨m, h, ws, rh, .of rs, e, o⟩⟩
theorem FnE.mono {P : Program} {w : World} {K : PySem.W.Frag} {mg : Str → Option Value} {base : Heap} {j k : Nat} {f : Addr} {fd : FuncData} {ps : List Str} {G : GC} {cl : Cls} {g : List W → Hpe → Res W} (F : FnE P w K mg base j f fd ps G cl g) (h : j ≤ k) : FnE P w K mg base k f fd ps G cl g :=
  ⟨fun A outer s H args us vs Q E hr => F.run A outer s H args us vs Q E (hr.mono h)⟩
structure DfE (P : Program) (w : World) (K : PySem.W.Frag) (mg : Str → Option Value) (base : Heap) (G : GC) (cl : Cls) (x : Str) (ps : List Str) (k : Nat) (g : List W → Hpe → Res W) : Prop where
  ex : ∃ f fd, FnE P w K mg base k f fd ps G cl g ∧ mg x = some (.ref f) ∧ PySem.W.keepIn K (.ref f) = true ∧ Binds K fd ps []
def runB (n : Nat) (f : FS) (ws : List W) (h : Hpe) : Res W := match f (ws.map some ++ List.replicate (n - ws.length) none) h with
  | .nx _ h' => .ok .non h'
  | .rt w h' => .ok w h'
  | .ex x _ h' => .ex x h'
  | _ => .no
theorem ss_start {G : GC} {cf : CF} {m : Nat → Addr} {h : Hpe} {H : Hp} {ws : List W} {vs : List V} (rh : RH G m h H) (r : RCs G cf m h.nx H ws vs) (n : Nat) : SS G cf m h (ws.map some ++ List.replicate (n - ws.length) none) (vs.map some ++ List.replicate (n - vs.length) none) H := by
  refine ⟨rh, by simp [r.len], fun i w e => ?_⟩
  have hl := r.len
  by_cases c : i < ws.length
  · rw [List.getElem?_append_left (by rw [List.length_map]; exact c), List.getElem?_map] at e
    cases q : ws[i]? with
    | none => rw [q] at e; cases e
    | some u =>
      rw [q] at e
      cases e
      obtain ⟨v, e1, rv⟩ := r.get q
      exact ⟨v, by rw [List.getElem?_append_left (by rw [List.length_map]; omega), List.getElem?_map, e1]; rfl, rv⟩
  · rw [List.getElem?_append_right (by rw [List.length_map]; omega), List.getElem?_replicate] at e
    split at e <;> cases e
theorem run_end {G : GC} {cl : Cls} {cf : CF} {E : XK} {Q : VK} {m : Nat → Addr} {h : Hpe} {H : Hp} {n : Nat} {fs : FS} {ws : List W} (o : Out G cl (RW G) (fun c d H' => E c d H') m h H (runB n fs ws h) Q) :
    OutS ⟨G, cl, fun c d _ H' => E c d H', cf⟩ m h H { nx := fun _ H' => Q .non H', rt := Q } (fs (ws.map some ++ List.replicate (n - ws.length) none) h) := by
  simp only [runB] at o
  cases q : fs (ws.map some ++ List.replicate (n - ws.length) none) h with
  | nx ρ' h' => simp only [q] at o; exact fun m' H' σ' a b => o m' H' .non a.rh b .non
  | rt w' h' => simp only [q] at o; exact o
  | ex x ρ' h' => simp only [q] at o; exact fun m' H' σ' c d a b e => o m' H' c d a.rh b e
  | no => simp only [q] at o; exact o
  | bk _ _ => simp only [q] at o; exact o.elim
  | ct _ _ => simp only [q] at o; exact o.elim
theorem ok_E {P : Program} {w : World} {K : PySem.W.Frag} {mg : Str → Option Value} {base : Heap} {G : GC} {cl : Cls} {x qual : Str} {st : Stmt} {f : Addr} {fd : FuncData} {N ps : List Str} {k : Nat} {fs : FS} (F : Fun K x qual st f fd) (S : FnScope N ps (defScope st))
    (hbody : ∀ (cdv : Value) (A : Around) (outer : List PySem.Env) (s : Shared) (H : Hp) (E : XK), Room k (A.deeper (envOfC qual (defScope st) s.heap.objs.size f cdv)) →
      SSs (cxOf (L2.CX P w) P w K mg base N qual (defScope st) f cdv A outer s H E) ⟨G, cl, fun c d _ H' => E c d H', CfAt G s H (frs outer)⟩ (defBody st) fs) : FnE P w K mg base (k + 1) f fd ps G cl (runB N.length fs) := by
  obtain ⟨oc, od, kV, doc, pm, an, cdv, ct, osl, rfl, lk, hcd⟩ := F.ex
  refine ⟨fun A outer s H args us vs Q E hr e0 hb r ⟨m, h, ws, rh, rs, e, o⟩ => ?_⟩
  exact LamX.run_ofS lk hcd S hr e0 hb r (by rw [← rs.len, e]) fun hr' => ⟨_, hbody cdv A outer s H E hr', m, h, _, ss_start rh rs N.length, run_end o⟩
section
variable {X : Cx} {B : Bx} {a b c e tg elt iter o : Expr} {es tgs ifs : List Expr} {fa fb fc f fe : FE} {ft : FT} {fs : FA} {fi : FI} {g : FG} {pos p p2 : Pos} {j : Nat} {x : Str} {us vs : List Nat}
def eCl (n : Nat) (g : List W → Hpe → Res W) (fs : FA) : FE := fun ρ h => (fs ρ h).bind fun ws h1 => bif Nat.beq ws.length n then g ws h1 else .no
theorem se_call {ps : List Str} {k n : Nat} {g : List W → Hpe → Res W} (D : DfE X.prog X.w X.K X.mg X.base B.G B.cl x ps k g) (tk : Takes X B.W) (hr : Room k X.A) (hg : Gl X x) (ha : SA X B (e :: es) fs) (hdb : (x == ("__debug__" : Str)) = false)
    (he : starEach (e :: es) X.env = (false, eval e X.env) :: starEach es X.env) (hpl : (backTo pos (starEach es X.env)).any (·.1) = false) (hn : ps.length = n) : SE X B (.Call (.Name x p) (e :: es) [] pos) (eCl n g fs) := by
  subst hn
  obtain ⟨f, fd, F, hm, hk, hb⟩ := D.ex
  refine pe_imp (pe_callS F.ok hr hg hm hk hb (fun σ => passAt tk σ) ha hdb he hpl) fun σ H Q ⟨m, h, ρ, s, o⟩ => ⟨m, h, ρ, s, (Out.bind s.rh o).mono fun vs H1 ⟨ws, m1, h1, r1, v1, q1, o1⟩ => ?_⟩
  cases c : Nat.beq ws.length ps.length with
  | false => rw [c] at o1; exact o1.elim
  | true => rw [c] at o1; exact ⟨m1, h1, ws, r1, q1, beq_eq c, o1⟩
def eCl0 (g : List W → Hpe → Res W) : FE := fun _ h => g [] h
theorem pe_callS0 {CX : CXT} {k : Nat} {f : Addr} {fd : FuncData} {ps : List Str} {sp : Sp} {E : L2.St → XK} (F : FnOk X.prog X.w X.K X.mg X.base CX k f fd ps sp) (hr : Room k X.A) (hg : Gl X x) (hm : X.mg x = some (.ref f)) (hk : PySem.W.keepIn X.K (.ref f) = true) (hb : Binds X.K fd ps []) (hx : ∀ σ, PassesAt CX X σ (E σ))
    (hdb : (x == ("__debug__" : Str)) = false) : PE X (.Call (.Name x p) [] [] pos) (tCallS sp E tNil) := by
  refine ⟨fun pins s σ H Q I h => ?_⟩
  refine wpAny_Call_Name_kw (ld_glob I hg hm ?_ hdb)
  exact PySem.W.callWith_K0 I.kIn hk (run_fnS (us := []) F hr hb (hx σ) I .nil h)
theorem se_call0 {k : Nat} {g : List W → Hpe → Res W} (D : DfE X.prog X.w X.K X.mg X.base B.G B.cl x [] k g) (tk : Takes X B.W) (hr : Room k X.A) (hg : Gl X x) (hdb : (x == ("__debug__" : Str)) = false) : SE X B (.Call (.Name x p) [] [] pos) (eCl0 g) := by
  obtain ⟨f, fd, F, hm, hk, hb⟩ := D.ex
  exact pe_imp (pe_callS0 F.ok hr hg hm hk hb (fun σ => passAt tk σ) hdb) fun σ H Q ⟨m, h, ρ, s, o⟩ => ⟨m, h, [], s.rh, .nil, rfl, o⟩
def ClS (G : GC) (r : List V → Hp → VK → Prop) (g : List W → Hpe → Res W) : Prop := ∀ (cl : Cls) (Wx : Value → Option Addr → Hp → Prop) (m : Nat → Addr) (h : Hpe) (H : Hp) (ws : List W) (vs : List V) (Q : VK), RH G m h H → RWs G m h.nx H ws vs →
  Out G cl (RW G) Wx m h H (g ws h) Q → r vs H Q
def eBl (g : List W → Hpe → Res W) (fs : FA) : FE := fun ρ h => (fs ρ h).bind g
theorem bl_ok {r : List V → Hp → VK → Prop} {g : List W → Hpe → Res W} (hop : ClS B.G r g) : ∀ σ H Q, tE B.G B.cf B.cl B.W (eBl g fs) σ H Q → tCB r (tA B.G B.cf B.cl B.W fs) σ H Q :=
  fun σ H Q ⟨m, h, ρ, s, o⟩ => ⟨m, h, ρ, s, (Out.bind s.rh o).mono fun vs H1 ⟨ws, m1, h1, r1, v1, q1, o1⟩ => hop B.cl _ m1 h1 H1 ws vs Q r1 q1 o1⟩
theorem se_bl' {id : String} {r : List V → Hp → VK → Prop} {g : List W → Hpe → Res W} (hc : CallR X (.builtin id) r) (hop : ClS B.G r g) (hg : Gl X x) (hm : X.mg x = none) (hv : bootBuiltins x = some (.builtin id)) (ha : SA X B (e :: es) fs)
    (h1 : x ≠ "__name__") (h2 : (x == ("__debug__" : Str)) = false) (h3 : starEach (e :: es) X.env = (false, eval e X.env) :: starEach es X.env) (h4 : (backTo pos (starEach es X.env)).any (·.1) = false) :
    SE X B (.Call (.Name x p) (e :: es) [] pos) (eBl g fs) := pe_imp (pe_callB hc hg hm hv ha h1 h2 h3 h4) (bl_ok hop)
theorem se_ty {T : String} {r : List V → Hp → VK → Prop} {g : List W → Hpe → Res W} (hc : CallR X (.type T) r) (hop : ClS B.G r g) (hg : Gl X x) (hm : X.mg x = none) (hv : bootBuiltins x = some (.type T)) (ha : SA X B (e :: es) fs)
    (h1 : x ≠ "__name__") (h2 : (x == ("__debug__" : Str)) = false) (h3 : starEach (e :: es) X.env = (false, eval e X.env) :: starEach es X.env) (h4 : (backTo pos (starEach es X.env)).any (·.1) = false) :
    SE X B (.Call (.Name x p) (e :: es) [] pos) (eBl g fs) := pe_imp (pe_callTy hc hg hm hv ha h1 h2 h3 h4) (bl_ok hop)
def rdS : W → Hpe → Option (List W)
  | .tup ws, _ => some ws
  | .ref n, h => rdL h n
  | _, _ => none
theorem rdS_ok {G : GC} {m : Nat → Addr} {h : Hpe} {H : Hp} {w : W} {v : V} {ws : List W} (rh : RH G m h H) (r : RW G m h.nx H w v) (e : rdS w h = some ws) : ∃ p xs, v = .ref p ∧ (SqL G.K H p xs ∨ SqT G.K H p xs) ∧ RWs G m h.nx H ws xs := by
  cases w <;> try (cases e; done)
  · cases e
    obtain ⟨a, xs, rfl, s, q⟩ := rw_tup r
    exact ⟨a, xs, rfl, .inr s, q⟩
  · obtain ⟨rfl, hn⟩ := rw_ref r
    obtain ⟨xs, s, q⟩ := rh.rd hn e
    exact ⟨_, xs, rfl, .inl s, q⟩
def bLen : List W → Hpe → Res W
  | [w], h => match rdS w h with
    | some ws => .ok (.int ws.length) h
    | none => .no
  | _, _ => .no
theorem cs_len {G : GC} : ClS G (fun xs H Q => ∃ p ys, xs = [V.ref p] ∧ (SqL G.K H p ys ∨ SqT G.K H p ys) ∧ Q (V.int ↑ys.length) H) bLen := by
  intro cl Wx m h H ws vs Q rh r o
  match ws, o with
  | [w], o =>
    obtain ⟨v, rfl, rv⟩ := rws_one r
    simp only [bLen] at o
    split at o
    · rename_i ws e
      obtain ⟨p, xs, rfl, s, q⟩ := rdS_ok rh rv e
      exact ⟨p, xs, rfl, s, o m H _ rh Mv.refl (by rw [q.len]; exact .int _)⟩
    · exact o.elim
def bAbs : List W → Hpe → Res W
  | [.int i], h => .ok (.int (if i < 0 then -i else i)) h
  | _, _ => .no
theorem cs_abs {G : GC} : ClS G (fun xs H Q => ∃ i, xs = [V.int i] ∧ Q (V.int (if i < 0 then -i else i)) H) bAbs := by
  intro cl Wx m h H ws vs Q rh r o
  match ws, o with
  | [.int i], o =>
    obtain ⟨v, rfl, rv⟩ := rws_one r
    obtain rfl := rw_int rv
    exact ⟨i, rfl, o m H _ rh Mv.refl (.int _)⟩
def bInt : List W → Hpe → Res W
  | [.int i], h => .ok (.int i) h
  | [.bl b], h => .ok (.int (if b = true then 1 else 0)) h
  | _, _ => .no
theorem cs_int {G : GC} : ClS G (fun xs H Q => (∃ i, xs = [V.int i] ∧ Q (V.int i) H) ∨ ∃ k, xs = [V.bl k] ∧ Q (V.int (if k = true then 1 else 0)) H) bInt := by
  intro cl Wx m h H ws vs Q rh r o
  match ws, o with
  | [.int i], o =>
    obtain ⟨v, rfl, rv⟩ := rws_one r
    obtain rfl := rw_int rv
    exact .inl ⟨i, rfl, o m H _ rh Mv.refl (.int _)⟩
  | [.bl b], o =>
    obtain ⟨v, rfl, rv⟩ := rws_one r
    obtain rfl := asB_ok rv
    exact .inr ⟨b, rfl, o m H _ rh Mv.refl (.int _)⟩
def bLst : List W → Hpe → Res W
  | [w], h => match rdS w h with
    | some ws => h.al (.lst ws)
    | none => .no
  | _, _ => .no
theorem cs_lst {G : GC} : ClS G (fun xs H Q => ∃ p ys, xs = [V.ref p] ∧ (SqL G.K H p ys ∨ SqT G.K H p ys) ∧ ∀ (l : Addr), H l = none → Q (V.ref l) (upd H l (HO.lst ys))) bLst := by
  intro cl Wx m h H ws vs Q rh r o
  match ws, o with
  | [w], o =>
    obtain ⟨v, rfl, rv⟩ := rws_one r
    simp only [bLst] at o
    split at o
    · rename_i ws e
      obtain ⟨p, xs, rfl, s, q⟩ := rdS_ok rh rv e
      exact ⟨p, xs, rfl, s, al_ok rh o (.lst q)⟩
    · exact o.elim
section
variable (hK : X.K = B.G.K) (hg : Gl X x) (hm : X.mg x = none)
theorem se_abs (hm : X.mg "abs" = none) (hg : Gl X "abs") (ha : SA X B [e] fs) (h3 : starEach [e] X.env = (false, eval e X.env) :: starEach [] X.env) (h4 : (backTo pos (starEach [] X.env)).any (·.1) = false) : SE X B (.Call (.Name "abs" p) [e] [] pos) (eBl bAbs fs) :=
  se_bl' call_abs cs_abs hg hm (by decide +kernel) ha (by decide) (by decide) h3 h4
theorem se_intOf (hm : X.mg "int" = none) (hg : Gl X "int") (ha : SA X B [e] fs) (h3 : starEach [e] X.env = (false, eval e X.env) :: starEach [] X.env) (h4 : (backTo pos (starEach [] X.env)).any (·.1) = false) : SE X B (.Call (.Name "int" p) [e] [] pos) (eBl bInt fs) :=
  se_ty call_int1 cs_int hg hm (by decide +kernel) ha (by decide) (by decide) h3 h4
end
def wipeR (ρ : Rho) : List Nat → Rho
  | [] => ρ
  | v :: vs => (wipeR ρ vs).set v none
theorem wipeR_len (ρ : Rho) : ∀ vs : List Nat, (wipeR ρ vs).length = ρ.length
  | [] => rfl
  | v :: vs => by unfold wipeR; rw [List.length_set, wipeR_len ρ vs]
theorem SS.wipe {G : GC} {cf : CF} {m : Nat → Addr} {h : Hpe} {ρ : Rho} {σ : L2.St} {H : Hp} (s : SS G cf m h ρ σ H) : ∀ vs : List Nat, SS G cf m h (wipeR ρ vs) (L2.wipe σ vs) H
  | [] => s
  | v :: vs => by
    have i := SS.wipe s vs
    refine ⟨i.rh, by rw [wipeR_len, L2.wipe_length]; exact s.len, fun k w e => ?_⟩
    simp only [wipeR] at e
    simp only [L2.wipe]
    rw [List.getElem?_set] at e ⊢
    by_cases c : v = k
    · rw [if_pos c] at e; split at e <;> cases e
    · rw [if_neg c] at e ⊢; exact i.sl k w e
def noX {α : Type} : Res α → Res α
  | .ok a h => .ok a h
  | _ => .no
theorem Out.noX {α β : Type} {G : GC} {cl : Cls} {R : (Nat → Addr) → Nat → Hp → α → β → Prop} {Wx Wy : Value → Option Addr → Hp → Prop} {m : Nat → Addr} {h : Hpe} {H : Hp} {r : Res α} {Q : β → Hp → Prop} (o : Out G cl R Wx m h H (noX r) Q) : Out G cl R Wy m h H r Q := by
  cases r with
  | ok a h' => exact o
  | ex x h' => exact o.elim
  | no => exact o
theorem RH.adopt {G : GC} {m : Nat → Addr} {h : Hpe} {H : Hp} (r : RH G m h H) (hk : h.nx < 1099511627776) {o : Ob} {ho : HO} {p : Addr} (ro : RO G m h.nx H p o ho) (hp : H p = some ho) (hn : ∀ i, i < h.nx → m i ≠ p) (hne : ∀ q, ho ≠ LamX.CodeO p q := by intro _ z; unfold LamX.CodeO at z; cases z) :
    ∃ m', RH G m' (h.new o) H ∧ m' h.nx = p ∧ (∀ i, i < h.nx → m' i = m i) := by
  refine ⟨fun i => if i = h.nx then p else m i, ?_, if_pos rfl, fun i hi => if_neg (Nat.ne_of_lt hi)⟩
  have old : ∀ i, i < h.nx → (fun i => if i = h.nx then p else m i) i = m i := fun i hi => if_neg (Nat.ne_of_lt hi)
  refine ⟨hk, fun i j hi hj e => ?_, fun i hi => ?_, r.tab, fun P hP => (r.ltab P hP).keep (fun _ e => e) fun b q e nb => ⟨e, fun i hi => by
    have hi' : i < h.nx + 1 := hi
    by_cases c : i = h.nx
    · simp only [c, if_true]
      intro z
      subst z
      rw [hp] at e; cases e
      exact hne q rfl
    · simp only [if_neg c]; exact nb i (by omega)⟩⟩
  · have hi' : i < h.nx + 1 := hi
    have hj' : j < h.nx + 1 := hj
    by_cases c : i = h.nx
    · by_cases d : j = h.nx
      · omega
      · exact absurd (show m j = p by have e' : p = m j := by simpa [c, d] using e
                                      exact e'.symm) (hn j (by omega))
    · by_cases d : j = h.nx
      · exact absurd (show m i = p by simpa [c, d] using e) (hn i (by omega))
      · exact r.inj i j (by omega) (by omega) (by simpa [c, d] using e)
  · have hi' : i < h.nx + 1 := hi
    by_cases c : i = h.nx
    · subst c
      refine ⟨o, ho, put_same 41 h.t h.nx o (by omega), ?_, ?_⟩
      · simp only [if_true]
        exact hp
      · show RO G _ _ _ (if h.nx = h.nx then p else m h.nx) o ho
        rw [if_pos rfl]
        exact ro.mono old (Nat.le_succ _) .refl
    · obtain ⟨o', ho', q1, q2, q3⟩ := r.obj i (by omega)
      refine ⟨o', ho', (put_ne 41 h.t h.nx i o c).trans q1, ?_, ?_⟩
      · simp only [if_neg c]
        exact q2
      · show RO G _ _ _ (if i = h.nx then p else m i) o' ho'
        rw [if_neg c]
        exact q3.mono old (Nat.le_succ _) .refl
def lcE (src : Src) (g : FG) (t : FT) (fe : FE) (ρ : Rho) : Nat → Nat → List W → Hpe → Res W
  | 0, _, _, _ => .no
  | k + 1, i, acc, h => match src h i with
    | none => .no
    | some none => h.al (.lst acc.reverse)
    | some (some w) => match g w ρ h with
      | .nx ρ' h1 => match t ρ' h1 with
        | .ok b h2 => bif b then (match fe ρ' h2 with
            | .ok y h3 => bif line i then lcE src g t fe ρ k (i + 1) (y :: acc) h3 else .no
            | _ => .no) else lcE src g t fe ρ k (i + 1) acc h2
        | _ => .no
      | _ => .no
def eLc (fi : FI) (g : FG) (t : FT) (fe : FE) (vs : List Nat) : FE := fun ρ h => (fi ρ h).bind fun src h1 => lcE src g t fe (wipeR ρ vs) 1000000 0 [] h1
def tYs : FT := fun _ h => .ok true h
abbrev Bx.nox (B : Bx) : Bx := ⟨B.G, B.cl, fun _ _ _ _ => False, B.cf⟩
theorem al_len {G : GC} {cl : Cls} {Wx : Value → Option Addr → Hp → Prop} {m : Nat → Addr} {h h' : Hpe} {H : Hp} {o : Ob} {Q : VK} (out : Out G cl (RW G) Wx m h H (h'.al o) Q) : h'.nx < 1099511627776 ∧ h'.al o = .ok (.ref h'.nx) (h'.new o) := by
  unfold Hpe.al at out ⊢
  cases c : Nat.blt h'.nx 1099511627776 with
  | false => rw [c] at out; exact out.elim
  | true => exact ⟨Nat.le_of_ble_eq_true c, rfl⟩
theorem lc_ok {σ : L2.St} {H : Hp} {Q : VK} (hvs : ∀ i ∈ us, i ∈ vs) (i0 : tE B.G B.cf B.cl B.W (eLc fi g ft fe vs) σ H Q) : tLc (tI B fi) (tG B.nox g us) (tT B.nox.G B.nox.cf B.nox.cl B.nox.W ft) (tE B.nox.G B.nox.cf B.nox.cl B.nox.W fe) vs σ H Q := by
  obtain ⟨m, h, ρ, s, o⟩ := i0
  refine ⟨m, h, ρ, s, (Out.bind s.rh o).mono fun J H1 ⟨src, m1, h1, r1, v1, its, o1⟩ D hD => ?_⟩
  obtain ⟨r1D, v1D⟩ := r1.tupNew (ho := .lst []) hD
  have nown : ∀ i, i < h1.nx → m1 i ≠ D := fun i hi z => r1.ne_none hi (by rw [z]; exact hD)
  have s1 := s.mv r1 v1
  -- the words at turn i
  refine ⟨fun i k H' => ∃ m' h' acc ys, RH B.G m' h' H' ∧ Mv m1 h1.nx H1 m' h'.nx H' ∧ RWs B.G m' h'.nx H' acc.reverse ys ∧ acc.length ≤ i ∧ H' D = some (.lst ys) ∧ (∀ j, j < h'.nx → m' j ≠ D) ∧
    Out B.G B.cl (RW B.G) (fun c d H2 => B.W c d σ H2) m1 h1 H1 (lcE src g ft fe (wipeR ρ vs) k i acc h') Q, ⟨1000000, m1, h1, [], [], r1D, v1D, .nil, Nat.zero_le _, upd_same, nown, o1⟩, ?_⟩
  rintro i k H' ⟨m2, h2, acc, ys, r2, v2, q2, hl, e2, n2, o2⟩
  cases k with
  | zero => exact o2.elim
  | succ k =>
    obtain ⟨i1, i2⟩ := its m2 h2 H' i r2 v2.old v2.le (v2.tupk r1) v2.kf
    simp only [lcE] at o2
    cases c : src h2 i with
    | none => rw [c] at o2; exact o2.elim
    | some c' =>
      rw [c] at o2
      cases c' with
      | none =>
        have o2 : Out B.G B.cl (RW B.G) (fun c d H2 => B.W c d σ H2) m1 h1 H1 (h2.al (.lst acc.reverse)) Q := o2
        obtain ⟨lt, e⟩ := al_len o2
        rw [e] at o2
        obtain ⟨m3, r3, e3, old3⟩ := r2.adopt lt (.lst q2) e2 n2
        refine .inl ⟨i1 c, ?_⟩
        rw [← e3]
        refine o2 m3 H' _ r3 ⟨Nat.le_trans v2.le (Nat.le_succ _), fun j hj => (old3 j (Nat.lt_of_lt_of_le hj v2.le)).trans (v2.old j hj), fun j a b => ?_, v2.kp, v2.kf⟩ (.ref _ (Nat.lt_succ_self _))
        have b' : j < h2.nx + 1 := b
        by_cases cj : j = h2.nx
        · rw [cj, e3]; exact hD
        · rw [old3 j (by omega)]; exact v2.new j a (by omega)
      | some w =>
        obtain ⟨go, yl⟩ := i2 w c
        refine .inr ⟨go, fun H3 => ∃ m' h' acc ys, RH B.G m' h' H3 ∧ Mv m1 h1.nx H1 m' h'.nx H3 ∧ RWs B.G m' h'.nx H3 acc.reverse ys ∧ acc.length ≤ i + 1 ∧ H3 D = some (.lst ys) ∧ (∀ j, j < h'.nx → m' j ≠ D) ∧
          Out B.G B.cl (RW B.G) (fun c d H2 => B.W c d σ H2) m1 h1 H1 (lcE src g ft fe (wipeR ρ vs) k (i + 1) acc h') Q, fun H3 z => ⟨k, Nat.lt_succ_self k, z⟩, fun x H3 y => ?_⟩
        obtain ⟨r3, v3, q3⟩ := yl x H3 y
        have t3 : Mv m1 h1.nx H1 m2 h2.nx H3 := v2.trans (r2.mv_ne v2) v3
        have s3 : SS B.G B.cf m2 h2 (wipeR ρ vs) (L2.wipe σ vs) H3 := ((s1.mv r2 v2).mv r3 v3).wipe vs
        -- the list stays where it is
        have keepD : ∀ {m' n' H''} {zs : List V}, (H3 D = some (.lst zs)) → Mv m2 h2.nx H3 m' n' H'' → H'' D = some (.lst zs) := fun e v => v.stay e n2 (fun _ z => by cases z)
        have e3 : H3 D = some (.lst ys) := v3.stay e2 n2 (fun _ z => by cases z)
        have nD : ∀ {m' n' H''}, Mv m2 h2.nx H3 m' n' H'' → ∀ j, j < n' → m' j ≠ D := fun v j hj z => by
          by_cases cj : j < h2.nx
          · rw [v.old j cj] at z; exact n2 j cj z
          · have := v.new j (by omega) hj
            rw [z, e3] at this; cases this
        refine ⟨m2, h2, wipeR ρ vs, w, s3, q3, ?_⟩
        cases cg : g w (wipeR ρ vs) h2 with
        | nx ρ4 h4 =>
          simp only [cg] at o2
          intro m4 H4 σ4 s4 v4 oth
          refine ⟨by rw [(oth.sub hvs).wipe, DL.wipe_wipe], m4, h4, ρ4, s4, ?_⟩
          cases ct : ft ρ4 h4 with
          | ok b h5 =>
            simp only [ct] at o2
            intro m5 H5 b' r5 v5 eb
            subst eb
            have v35 : Mv m2 h2.nx H3 m5 h5.nx H5 := v4.trans (s4.rh.mv_ne v4) v5
            have t5 : Mv m1 h1.nx H1 m5 h5.nx H5 := t3.trans (r3.mv_ne t3) v35
            have q5 : RWs B.G m5 h5.nx H5 acc.reverse ys := ((q2.mono v3.old v3.le (v3.tupk r2)).mono v35.old v35.le (v35.tupk r3))
            cases b with
            | false => rw [if_neg (by decide)]; exact ⟨m5, h5, acc, ys, r5, t5, q5, Nat.le_succ_of_le hl, keepD e3 v35, nD v35, o2⟩
            | true =>
              rw [if_pos rfl]
              have s5 : SS B.G B.cf m5 h5 ρ4 σ4 H5 := s4.mv r5 v5
              refine ⟨m5, h5, ρ4, s5, ?_⟩
              cases ce : fe ρ4 h5 with
              | ok z h6 =>
                simp only [ce, cond_true] at o2
                intro m6 H6 u r6 v6 q6
                cases cl : line i with
                | false => rw [cl] at o2; exact o2.elim
                | true =>
                  rw [cl] at o2
                  have v36 : Mv m2 h2.nx H3 m6 h6.nx H6 := v35.trans (r5.mv_ne v35) v6
                  have e6 := keepD e3 v36
                  have n6 := nD v36
                  have q6' : RWs B.G m6 h6.nx H6 acc.reverse ys := q5.mono v6.old v6.le (v6.tupk r5)
                  have hlen : ys.length < sizeLine := by
                    have h1 := q2.len
                    rw [List.length_reverse] at h1
                    have h2 : i ≤ 100000 := Nat.le_of_ble_eq_true cl
                    have h3 : (100000 : Nat) < sizeLine := by decide
                    omega
                  refine ⟨ys, e6, hlen, m6, h6, z :: acc, ys ++ [u], ?_⟩
                  -- a store at an object without a number
                  have tk : TupK H6 (upd H6 D (.lst (ys ++ [u]))) := fun a xs q => by
                    rcases q with q | ⟨ob, q⟩
                    · exact .inl (by rw [upd_ne (fun z : a = D => by rw [z, e6] at q; cases q)]; exact q)
                    · exact .inr ⟨ob, by rw [upd_ne (fun z : a = D => by rw [z, e6] at q; cases q)]; exact q⟩
                  have r7 : RH B.G m6 h6 (upd H6 D (.lst (ys ++ [u]))) := ⟨r6.sz, r6.inj, fun j hj => by
                    obtain ⟨o', ho', a1, a2, a3⟩ := r6.obj j hj
                    exact ⟨o', ho', a1, by rw [upd_ne (n6 j hj)]; exact a2, a3.mono (fun _ _ => rfl) (Nat.le_refl _) tk⟩, fun P hP => by
                    obtain ⟨ps, a1, a2⟩ := r6.tab P hP
                    exact ⟨ps, by rw [upd_ne (fun z : P = D => by rw [z, e6] at a1; cases a1)]; exact a1, a2⟩, fun P hP => (r6.ltab P hP).keep (fun ps e => by rw [upd_ne (fun z : P = D => by rw [z, e6] at e; cases e)]; exact e) fun b q e nb => ⟨by rw [upd_ne (fun z : b = D => by rw [z, e6] at e; unfold LamX.CodeO at e; cases e)]; exact e, nb⟩⟩
                  have t6 : Mv m1 h1.nx H1 m6 h6.nx H6 := t3.trans (r3.mv_ne t3) v36
                  refine ⟨r7, ⟨t6.le, t6.old, t6.new, fun b ob e hb => ?_, fun j hj ob u e => by rw [upd_ne (fun z : m1 j = D => by rw [z, hD] at e; cases e)]; exact t6.kf j hj ob u e⟩, ?_, by simp; omega, upd_same, n6, o2⟩
                  · have bD : b ≠ D := fun z => by rw [z, hD] at e; cases e
                    rw [upd_ne bD]; exact t6.kp b ob e hb
                  · rw [List.reverse_cons]
                    exact (q6'.mono (fun _ _ => rfl) (Nat.le_refl _) tk).app (.cons (q6.mono (fun _ _ => rfl) (Nat.le_refl _) tk) .nil)
              | ex _ _ => simp only [ce, cond_true] at o2; exact o2.elim
              | no => simp only [ce, cond_true] at o2; exact o2.elim
          | ex _ _ => simp only [ct] at o2; exact o2.elim
          | no => simp only [ct] at o2; exact o2.elim
        | ex _ _ _ => simp only [cg] at o2; exact o2.elim
        | no => simp only [cg] at o2; exact o2.elim
        | rt _ _ => simp only [cg] at o2; exact o2.elim
        | bk _ _ => simp only [cg] at o2; exact o2.elim
        | ct _ _ => simp only [cg] at o2; exact o2.elim
theorem pts_imp {X : Cx} {t t' : TT} (h : PTs X ifs t) (i : ∀ σ H Q, t' σ H Q → t σ H Q) : PTs X ifs t' := ⟨fun pins s σ H Q I q => h.run pins s σ H Q I (i σ H Q q)⟩
def STs (X : Cx) (B : Bx) (ifs : List Expr) (f : FT) : Prop := PTs X ifs (tT B.G B.cf B.cl B.W f)
theorem sts_nil : STs X B [] tYs := pts_imp pts_nil fun σ H Q ⟨m, h, ρ, s, o⟩ => o m H true s.rh Mv.refl rfl
theorem se_lc {scope : Scope} {own : List (Str × Nat)} (hc : X.calm = true) (hN : X.N.Nodup) (hi : SI X B tg iter fi) (ok : BlkOk X.N X.env.scope scope own)
    (hg : ∀ (s : Shared) (H : Hp) (C : Addr) (cl : List (Str × Addr)) (fp : List Addr), SG (X.blk s H scope (compEnvC scope cl C X.env) fp) B.nox tg g us) (ht : ∀ (s : Shared) (H : Hp) (C : Addr) (cl : List (Str × Addr)) (fp : List Addr), STs (X.blk s H scope (compEnvC scope cl C X.env) fp) B.nox ifs ft)
    (he : ∀ (s : Shared) (H : Hp) (C : Addr) (cl : List (Str × Addr)) (fp : List Addr), SE (X.blk s H scope (compEnvC scope cl C X.env) fp) B.nox elt fe) (hus : ∀ i ∈ us, i ∈ own.map (·.2)) (hs : ∀ x, foldedSetIterable iter X.env x = pure x) :
    SE X B (.ListComp elt [⟨tg, iter, ifs, 0⟩] scope pos) (eLc fi g ft fe (own.map (·.2))) :=
  pe_imp (pe_lc hc hN hi ok hg ht he hs) fun σ H Q i => lc_ok hus i
end
end EV
namespace EV
open PySem PySem.Spec PyProof.Rows L2
section
variable {X : Cx} {B : Bx} {a b c e o tg : Expr} {es : List Expr} {fa fb fc f fo : FE} {ft : FT} {fs : FA} {pos p p2 p3 p4 tpos apos cpos : Pos} {j : Nat} {x y : Str}
def MtS (G : GC) (T : String) (r : V → List V → Hp → VK → Prop) (chk : W → Hpe → Bool) (g : W → List W → Hpe → Res W) : Prop :=
  (∀ (m : Nat → Addr) (h : Hpe) (H : Hp) (w : W) (v : V), RH G m h H → RW G m h.nx H w v → chk w h = true → tyV G.K T v H) ∧
  ∀ (cl : Cls) (Wx : Value → Option Addr → Hp → Prop) (m : Nat → Addr) (h : Hpe) (H : Hp) (w : W) (ws : List W) (v : V) (vs : List V) (Q : VK), RH G m h H → RW G m h.nx H w v → RWs G m h.nx H ws vs → Out G cl (RW G) Wx m h H (g w ws h) Q → r v vs H Q
def chkL : W → Hpe → Bool
  | .ref n, h => match h.get n with
    | some (.lst _) => true
    | _ => false
  | _, _ => false
theorem chkL_ok {G : GC} {m : Nat → Addr} {h : Hpe} {H : Hp} {w : W} {v : V} (rh : RH G m h H) (r : RW G m h.nx H w v) (c : chkL w h = true) : tyV G.K "list" v H := by
  cases w <;> try (cases c; done)
  rename_i n
  obtain ⟨rfl, hn⟩ := rw_ref r
  simp only [chkL] at c
  split at c
  · rename_i ws e
    obtain ⟨xs, e1, _⟩ := rh.lst hn e
    exact .inl ⟨rfl, xs, SqL.of e1⟩
  · cases c
theorem st_ok {G : GC} {cl : Cls} {Wx : Value → Option Addr → Hp → Prop} {m : Nat → Addr} {h : Hpe} {H : Hp} {n : Nat} {o : Ob} {ho : HO} {w : W} {v : V} {Q : VK} (rh : RH G m h H) (hn : n < h.nx) (out : Out G cl (RW G) Wx m h H (.ok w (h.set n o)) Q) (ro : RO G m h.nx H (m n) o ho) (rw : ∀ H', TupK H H' → RW G m h.nx H' w v) (nf : ∀ ob u, H (m n) ≠ some (.frz ob u) := by intro _ _ z; simp_all) : Q v (upd H (m n) ho) := by
  obtain ⟨r', v'⟩ := rh.store hn ro nf
  exact out m _ v r' v' (rw _ (v'.tupk rh))
def mApp : W → List W → Hpe → Res W
  | .ref n, [y], h => match h.get n with
    | some (.lst ws) => bif line ws.length then .ok .non (h.set n (.lst (ws ++ [y]))) else .no
    | _ => .no
  | _, _, _ => .no
theorem line_lt {n : Nat} (h : line n = true) : n < sizeLine := Nat.lt_of_le_of_lt (Nat.le_of_ble_eq_true h) (by decide)
theorem ms_app {G : GC} : MtS G "list" rAppend chkL mApp := by
  refine ⟨fun m h H w v rh r c => chkL_ok rh r c, fun cl Wx m h H w ws v vs Q rh r rs o => ?_⟩
  match w, ws, o with
  | .ref n, [y], o =>
    obtain ⟨rfl, hn⟩ := rw_ref r
    obtain ⟨u, rfl, ru⟩ := rws_one rs
    simp only [mApp] at o
    split at o
    · rename_i zs e
      obtain ⟨xs, e1, q⟩ := rh.lst hn e
      cases c : line zs.length with
      | false => rw [c] at o; exact o.elim
      | true => rw [c] at o; exact ⟨_, xs, u, rfl, rfl, e1, by rw [← q.len]; exact line_lt c, st_ok rh hn o (.lst (q.app (.cons ru .nil))) fun _ _ => .non⟩
    · exact o.elim
inductive Kd where
  | int | bool | str | list | tuple
def Kd.nm : Kd → String
  | .int => "int"
  | .bool => "bool"
  | .str => "str"
  | .list => "list"
  | .tuple => "tuple"
def instW (t : Kd) (w : W) (h : Hpe) : Option Bool := match w with
  | .non => some false
  | .bl _ => some (match t with | .int => true | .bool => true | _ => false)
  | .int _ => some (match t with | .int => true | _ => false)
  | .str _ => some (match t with | .str => true | _ => false)
  | .tup _ => some (match t with | .tuple => true | _ => false)
  | .ref n => match rdL h n with
    | some _ => some (match t with | .list => true | _ => false)
    | none => none
  | .df _ => none
  | .clo _ _ => none
theorem inst_ok {G : GC} {m : Nat → Addr} {h : Hpe} {H : Hp} {w : W} {v : V} {t : Kd} {b : Bool} (rh : RH G m h H) (r : RW G m h.nx H w v) (e : instW t w h = some b) : ∃ k : String, TyX G.K H v (.type k) ∧ ∀ t b, instW t w h = some b → PySem.W.kitOne G.K (.type k) (.type (Kd.nm t)) = some b := by
  cases w with
  | non => obtain rfl := rw_non r; exact ⟨"NoneType", .base .non, fun t b e => by cases e; cases t <;> exact kit_ty (by decide +kernel)⟩
  | bl c => obtain rfl := asB_ok r; exact ⟨"bool", .base (.bl c), fun t b e => by cases e; cases t <;> exact kit_ty (by decide +kernel)⟩
  | int i => obtain rfl := rw_int r; exact ⟨"int", .base (.int i), fun t b e => by cases e; cases t <;> exact kit_ty (by decide +kernel)⟩
  | str s => obtain rfl := rw_str r; exact ⟨"str", .base (.str s), fun t b e => by cases e; cases t <;> exact kit_ty (by decide +kernel)⟩
  | tup ws =>
    obtain ⟨a, xs, rfl, s, _⟩ := rw_tup r
    refine ⟨"tuple", ?_, fun t b e => by cases e; cases t <;> exact kit_ty (by decide +kernel)⟩
    rcases s with (a | ⟨o, a⟩) | ⟨o, its, n, hk, hc, _⟩
    · exact .base (.tup a)
    · exact .fTuple a
    · exact .kTuple hk hc
  | ref n =>
    obtain ⟨rfl, hn⟩ := rw_ref r
    simp only [instW] at e ⊢
    split at e
    · rename_i ws ew
      obtain ⟨xs, s, _⟩ := rh.rd hn ew
      refine ⟨"list", ?_, fun t b e => by cases e; cases t <;> exact kit_ty (by decide +kernel)⟩
      rcases s with (a | ⟨o, a⟩) | ⟨o, its, n, hk, hc, _⟩
      · exact .base (.lst a)
      · exact .base (.frz a)
      · exact .kList hk hc
    · cases e
  | df _ => cases e
  | clo _ _ => cases e
def eIs (t : Kd) (f : FE) : FE := fun ρ h => (f ρ h).bind fun w h1 => match instW t w h1 with
  | some b => .ok (.bl b) h1
  | none => .no
theorem se_isi {t : Kd} (hK : X.K = B.G.K) (hm : X.mg "isinstance" = none) (hg : Gl X "isinstance") (he : SE X B e f) (ht : PE X (.Name x p2) (L2.tC (.ty t.nm)))
    (h3 : starEach [e, .Name x p2] X.env = (false, eval e X.env) :: starEach [.Name x p2] X.env) (h5 : starEach [Expr.Name x p2] X.env = (false, eval (.Name x p2) X.env) :: starEach [] X.env) (h4 : (backTo pos (starEach [Expr.Name x p2] X.env)).any (·.1) = false) :
    SE X B (.Call (.Name "isinstance" p) [e, .Name x p2] [] pos) (eIs t f) :=
  pe_imp (pe_callB (r := rIsi B.G.K) (by rw [← hK]; exact call_isi) hg hm (by decide +kernel) (pa_cons he (pa_cons ht pa_nil h5) h3) (by decide) (by decide) h3 h4) fun σ H Q ⟨m, h, ρ, s, o⟩ =>
    ⟨m, h, ρ, s, (Out.bind s.rh o).mono fun v H1 ⟨w, m1, h1, r1, v1, q1, o1⟩ => by
      split at o1
      · rename_i b eb
        obtain ⟨k, ty, kt⟩ := inst_ok r1 q1 eb
        exact ⟨v, .ty t.nm, _, .type t.nm, b, rfl, .ty t.nm, ty, kt t b eb, o1 m1 H1 _ r1 Mv.refl (.bl _)⟩
      · exact o1.elim⟩
def eIs2 (t t' : Kd) (f : FE) : FE := fun ρ h => (f ρ h).bind fun w h1 => match instW t w h1, instW t' w h1 with
  | some b, some b' => .ok (.bl (b || b')) h1
  | _, _ => .no
theorem se_isi2 {t t' : Kd} {kk : Nat} (hK : X.K = B.G.K) (hm : X.mg "isinstance" = none) (hg : Gl X "isinstance") (he : SE X B e f) (ht : PE X (.Name x p2) (L2.tC (.ty t.nm))) (ht' : PE X (.Name y p3) (L2.tC (.ty t'.nm)))
    (h3 : starEach [e, .Tuple [.Name x p2, .Name y p3] kk p4] X.env = (false, eval e X.env) :: starEach [.Tuple [.Name x p2, .Name y p3] kk p4] X.env)
    (h5 : starEach [Expr.Tuple [.Name x p2, .Name y p3] kk p4] X.env = (false, eval (.Tuple [.Name x p2, .Name y p3] kk p4) X.env) :: starEach [] X.env)
    (h6 : starEach [Expr.Name x p2, Expr.Name y p3] X.env = (false, eval (.Name x p2) X.env) :: starEach [Expr.Name y p3] X.env) (h7 : starEach [Expr.Name y p3] X.env = (false, eval (.Name y p3) X.env) :: starEach [] X.env)
    (h4 : (backTo pos (starEach [Expr.Tuple [.Name x p2, .Name y p3] kk p4] X.env)).any (·.1) = false) :
    SE X B (.Call (.Name "isinstance" p) [e, .Tuple [.Name x p2, .Name y p3] kk p4] [] pos) (eIs2 t t' f) :=
  pe_imp (pe_callB (r := rIsiT B.G.K) (by rw [← hK]; exact call_isiT) hg hm (by decide +kernel) (pa_cons he (pa_cons (pe_tup (pa_cons ht (pa_cons ht' pa_nil h7) h6)) pa_nil h5) h3) (by decide) (by decide) h3 h4) fun σ H Q ⟨m, h, ρ, s, o⟩ =>
    ⟨m, h, ρ, s, (Out.bind s.rh o).mono fun v H1 ⟨w, m1, h1, r1, v1, q1, o1⟩ => by
      split at o1
      · rename_i b b' eb eb'
        refine ⟨(by show 2 ≤ sizeLine; decide), fun tp hp => ?_⟩
        obtain ⟨r2, v2⟩ := r1.tupNew (ho := .tup [.ty t.nm, .ty t'.nm]) hp
        have q2 := q1.mono v2.old v2.le (v2.tupk r1)
        obtain ⟨k, ty, kt⟩ := inst_ok r2 q2 eb
        exact ⟨v, tp, _, _, [.type t.nm, .type t'.nm], _, rfl, upd_same, .cons (.ty _) (.cons (.ty _) .nil), ty, DL.kit_any2 (kt t b eb) (kt t' b' eb'), o1 m1 _ _ r2 v2 (.bl _)⟩
      · exact o1.elim⟩
def bools : List W → Option (List Bool)
  | [] => some []
  | .bl b :: r => match bools r with
    | some bs => some (b :: bs)
    | none => none
  | _ :: _ => none
theorem bools_ok {G : GC} {m : Nat → Addr} {n : Nat} {H : Hp} : ∀ {ws : List W} {bs : List Bool} {vs : List V}, bools ws = some bs → RWs G m n H ws vs → vs = bs.map V.bl
  | [], bs, vs, e, r => by cases e; cases r; rfl
  | w :: ws, bs, vs, e, r => by
    cases w <;> try (cases e; done)
    simp only [bools] at e
    split at e
    · rename_i bs' e'
      cases e
      cases r with
      | cons a b => rw [asB_ok a, bools_ok e' b]; rfl
    · cases e
def bAllAny (f : List Bool → Bool) : List W → Hpe → Res W
  | [.ref n], h => match rdL h n with
    | some ws => match bools ws with
      | some bs => .ok (.bl (f bs)) h
      | none => .no
    | none => .no
  | _, _ => .no
theorem cs_allAny {G : GC} {f : List Bool → Bool} : ClS G (fun vs H Q => ∃ (a : Addr) (bs : List Bool), vs = [V.ref a] ∧ SqL G.K H a (bs.map V.bl) ∧ Q (.bl (f bs)) H) (bAllAny f) := by
  intro cl Wx m h H ws vs Q rh r o
  match ws, o with
  | [.ref n], o =>
    obtain ⟨v, rfl, rv⟩ := rws_one r
    obtain ⟨rfl, hn⟩ := rw_ref rv
    simp only [bAllAny] at o
    split at o
    · rename_i ws e
      obtain ⟨xs, s, q⟩ := rh.rd hn e
      split at o
      · rename_i bs eb
        exact ⟨_, bs, rfl, by rw [← bools_ok eb q]; exact s, o m H _ rh Mv.refl (.bl _)⟩
      · exact o.elim
    · exact o.elim
theorem se_all (hK : X.K = B.G.K) (hc : X.calm = true) (hm : X.mg "all" = none) (hg : Gl X "all") (ha : SA X B [e] fs) (h3 : starEach [e] X.env = (false, eval e X.env) :: starEach [] X.env) (h4 : (backTo pos (starEach [] X.env)).any (·.1) = false) : SE X B (.Call (.Name "all" p) [e] [] pos) (eBl (bAllAny fun bs => bs.all id) fs) :=
  se_bl' (r := rAll B.G.K) (by rw [← hK]; exact cr_all hc) cs_allAny hg hm (by decide +kernel) ha (by decide) (by decide) h3 h4
def srcZ (a b : W) : Src := fun h i => match rdS a h, rdS b h with
  | some xs, some ys => match xs[i]?, ys[i]? with
    | some x, some y => some (some (.tup [x, y]))
    | _, _ => some none
  | _, _ => none
def srcE (a : W) : Src := fun h i => match rdS a h with
  | some xs => match xs[i]? with
    | some x => some (some (.tup [.int (i : Nat), x]))
    | _ => some none
  | _ => none
theorem pair_new {G : GC} {m : Nat → Addr} {h : Hpe} {H : Hp} {T : Addr} {w1 w2 : W} {x y : V} (rh : RH G m h H) (hT : H T = none) (r1 : RW G m h.nx H w1 x) (r2 : RW G m h.nx H w2 y) :
    RH G m h (upd H T (.tup [x, y])) ∧ Mv m h.nx H m h.nx (upd H T (.tup [x, y])) ∧ RW G m h.nx (upd H T (.tup [x, y])) (.tup [w1, w2]) (.ref T) := by
  obtain ⟨a, b⟩ := rh.tupNew (ho := .tup [x, y]) hT
  have t := b.tupk rh
  exact ⟨a, b, .tup (SqT.of upd_same) (.cons (r1.mono (fun _ _ => rfl) (Nat.le_refl _) t) (.cons (r2.mono (fun _ _ => rfl) (Nat.le_refl _) t) .nil))⟩
theorem none_len {ws : List W} {i : Nat} (h : ws[i]? = none) : ws.length ≤ i := List.getElem?_eq_none_iff.mp h
theorem its_zipL {G : GC} {m : Nat → Addr} {n k l : Nat} {H : Hp} (hk : k < n) (hl : l < n) : ItS G m n H (srcZ (.ref k) (.ref l)) (Itz G.K (m k) (m l)) := by
  intro m' h' H' j rh old le tk kf
  simp only [srcZ, rdS]
  cases e1 : rdL h' k with
  | none => exact ⟨fun z => (by cases z), fun w z => (by cases z)⟩
  | some xs =>
    cases e2 : rdL h' l with
    | none => exact ⟨fun z => (by cases z), fun w z => (by cases z)⟩
    | some ys =>
      obtain ⟨us, s1, q1⟩ := rh.rd (Nat.lt_of_lt_of_le hk le) e1
      obtain ⟨vs, s2, q2⟩ := rh.rd (Nat.lt_of_lt_of_le hl le) e2
      rw [old k hk] at s1
      rw [old l hl] at s2
      simp only
      cases c1 : xs[j]? with
      | none => exact ⟨fun _ => ⟨us, vs, s1, s2, .inl (by rw [← q1.len]; exact none_len c1)⟩, fun w z => (by cases z)⟩
      | some x =>
        cases c2 : ys[j]? with
        | none => exact ⟨fun _ => ⟨us, vs, s1, s2, .inr (by rw [← q2.len]; exact none_len c2)⟩, fun w z => (by cases z)⟩
        | some y =>
          obtain ⟨u, a1, b1⟩ := q1.get c1
          obtain ⟨v, a2, b2⟩ := q2.get c2
          refine ⟨fun z => (by cases z), fun w z => ?_⟩
          cases z
          refine ⟨⟨us, vs, u, v, s1, s2, a1, a2⟩, fun x' H'' yl => ?_⟩
          obtain ⟨T, p, r, rfl, hT, rfl, f1, f2⟩ := yl
          have := f1 us s1; rw [a1] at this; cases this
          have := f2 vs s2; rw [a2] at this; cases this
          exact pair_new rh hT b1 b2
theorem its_zipT {G : GC} {m : Nat → Addr} {n : Nat} {H : Hp} {a b : Addr} {us vs : List V} {xs ys : List W} (s1 : SqT G.K H a us) (q1 : RWs G m n H xs us) (s2 : SqT G.K H b vs) (q2 : RWs G m n H ys vs) : ItS G m n H (srcZ (.tup xs) (.tup ys)) (RZ.ItzT G.K a b) := by
  intro m' h' H' j rh old le tk kf
  have s1' := tk.seq s1
  have s2' := tk.seq s2
  have q1' := q1.mono old le tk
  have q2' := q2.mono old le tk
  simp only [srcZ, rdS]
  cases c1 : xs[j]? with
  | none => exact ⟨fun _ => ⟨us, vs, s1', s2', .inl (by rw [← q1.len]; exact none_len c1)⟩, fun w z => (by cases z)⟩
  | some x =>
    cases c2 : ys[j]? with
    | none => exact ⟨fun _ => ⟨us, vs, s1', s2', .inr (by rw [← q2.len]; exact none_len c2)⟩, fun w z => (by cases z)⟩
    | some y =>
      obtain ⟨u, a1, b1⟩ := q1'.get c1
      obtain ⟨v, a2, b2⟩ := q2'.get c2
      refine ⟨fun z => (by cases z), fun w z => ?_⟩
      cases z
      refine ⟨⟨us, vs, u, v, s1', s2', a1, a2⟩, fun x' H'' yl => ?_⟩
      obtain ⟨T, p, r, rfl, hT, rfl, f1, f2⟩ := yl
      have := f1 us s1'; rw [a1] at this; cases this
      have := f2 vs s2'; rw [a2] at this; cases this
      exact pair_new rh hT b1 b2
def iZ (fs : FA) : FI := fun ρ h => (fs ρ h).bind fun ws h1 => match ws with
  | [.ref k, .ref l] => match rdL h1 k, rdL h1 l with
    | some _, some _ => .ok (srcZ (.ref k) (.ref l)) h1
    | _, _ => .no
  | [.tup xs, .tup ys] => .ok (srcZ (.tup xs) (.tup ys)) h1
  | _ => .no
theorem si_zip {elts : List Expr} {kk : Nat} (hK : X.K = B.G.K) (hg : Gl X "zip") (hm : X.mg "zip" = none) (ha : SA X B [a, b] fs) (hs : starEach [a, b] X.env = (false, eval a X.env) :: starEach [b] X.env) (hpl : (backTo pos (starEach [b] X.env)).any (·.1) = false) :
    SI X B (.Tuple elts kk tpos) (.Call (.Name "zip" p) [a, b] [] pos) (iZ fs) :=
  pi_imp (RZ.pi_zipA hg hm ha hs hpl) fun σ H R ⟨m, h, ρ, s, o⟩ => ⟨m, h, ρ, s, (Out.bind s.rh o).mono fun vs H1 ⟨ws, m1, h1, r1, v1, q1, o1⟩ => by
    match ws, o1 with
    | [.ref k, .ref l], o1 =>
      obtain ⟨v, u, rfl, ra, rb⟩ := rws_two q1
      obtain ⟨rfl, hk⟩ := rw_ref ra
      obtain ⟨rfl, hl⟩ := rw_ref rb
      simp only at o1
      split at o1
      · rename_i xs ys e1 e2
        obtain ⟨us, s1, _⟩ := r1.rd hk e1
        obtain ⟨vs, s2, _⟩ := r1.rd hl e2
        exact ⟨_, _, us, vs, rfl, .inl ⟨by rw [hK]; exact s1, by rw [hK]; exact s2, by rw [hK]; exact o1 m1 H1 _ r1 Mv.refl (its_zipL hk hl)⟩⟩
      · exact o1.elim
    | [.tup xs, .tup ys], o1 =>
      obtain ⟨v, u, rfl, ra, rb⟩ := rws_two q1
      obtain ⟨a, us, rfl, s1, z1⟩ := rw_tup ra
      obtain ⟨b, vs, rfl, s2, z2⟩ := rw_tup rb
      exact ⟨a, b, us, vs, rfl, .inr ⟨by rw [hK]; exact s1, by rw [hK]; exact s2, by rw [hK]; exact o1 m1 H1 _ r1 Mv.refl (its_zipT s1 z1 s2 z2)⟩⟩⟩
end
end EV
namespace EV
open PySem PySem.Spec PyProof.Rows L2
open Sem (wp)
section
variable {prog : Program} {w : World} {A : Around} {E : Value → Shared → Prop} {s : Shared}
end
section
variable {X : Cx} {B : Bx} {e o : Expr} {f fo : FE} {pos tpos p2 : Pos}
end
end EV
namespace EV
open PySem PySem.Spec PyProof.Rows L2
inductive BT where
  | lf | nd (o : Option (List W → Hpe → Res W)) (l r : BT)
noncomputable def BT.get (t : BT) : Nat → List W → Hpe → Res W :=
  BT.rec (motive := fun _ => Nat → List W → Hpe → Res W) (fun _ _ _ => .no) (fun o _ _ gl gr n => bif Nat.beq n 0 then (match o with
      | some f => f
      | none => fun _ _ => .no) else bif Nat.beq (n % 2) 1 then gl (n / 2) else gr (n / 2 - 1)) t
section
variable {X : Cx} {B : Bx} {a b : Expr} {fa fb : FE} {ft : FT} {pos : Pos}
def eNtT (f : FE) : FE := fun ρ h => (f ρ h).bind fun w h1 => match truW w h1 with
  | some b => .ok (.bl (!b)) h1
  | none => .no
theorem se_notT (hK : X.K = B.G.K) (ha : SE X B a fa) : SE X B (.UnaryOp .Not a pos) (eNtT fa) :=
  pe_imp (pe_notT ha) fun σ H Q ⟨m, h, ρ, s, o⟩ => ⟨m, h, ρ, s, (Out.bind s.rh o).mono fun v H1 ⟨w, m1, h1, r1, v1, q1, o1⟩ => by
    cases c : truW w h1 with
    | none => rw [c] at o1; exact o1.elim
    | some d => rw [c] at o1; exact ⟨d, by rw [hK]; exact tru_ok r1 q1 c, o1 m1 H1 _ r1 Mv.refl (.bl _)⟩⟩
def cM (k : Int) (n : Nat) : Bool := decide (-1000000 ≤ k) && decide (k ≤ 1000) && Nat.ble n 1000
def gMul : W → W → Hpe → Res W
  | .int i, .int j, h => bif cMul i j then .ok (.int (i * j)) h else .no
  | .tup ws, .int k, h => bif cM k ws.length then .ok (.tup (List.replicate k.toNat ws).flatten) h else .no
  | .ref n, .int k, h => match h.get n with
    | some (.lst ws) => bif cM k ws.length then h.al (.lst (List.replicate k.toNat ws).flatten) else .no
    | _ => .no
  | _, _, _ => .no
abbrev rMulE (K : PySem.W.Frag) : R2 := fun x y H Q => (rI CMul fun i j => .int (i * j)) x y H Q ∨ (DL.rMulT K x y H Q ∨ rRep x y H Q)
theorem op_mulE : OpR X (binaryOp .Mult) (rMulE X.K) := OpR.or op_mul (OpR.or DL.op_mulT op_rep)
theorem os_mul {G : GC} : OpS G (rMulE G.K) gMul := by
  intro cl Wx m h H a b x y Q rh ra rb o
  cases b <;> try (cases a <;> exact o.elim)
  rename_i k
  obtain rfl := rw_int rb
  cases a <;> try exact o.elim
  · rename_i i
    obtain rfl := rw_int ra
    simp only [gMul] at o
    cases c : cMul i k with
    | false => rw [c] at o; exact o.elim
    | true => rw [c] at o; exact .inl ⟨i, k, rfl, rfl, cMul_ok i k c, o m H _ rh Mv.refl (.int _)⟩
  · rename_i ws
    obtain ⟨a, xs, rfl, s, q⟩ := rw_tup ra
    simp only [gMul] at o
    cases c : cM k ws.length with
    | false => rw [c] at o; exact o.elim
    | true =>
      rw [c] at o
      have o : Out G cl (RW G) Wx m h H (.ok (.tup (List.replicate k.toNat ws).flatten) h) Q := o
      have c' := c
      simp only [cM, Bool.and_eq_true, decide_eq_true_eq] at c'
      have c3 : ws.length ≤ 1000 := Nat.le_of_ble_eq_true c'.2
      refine .inr (.inl ⟨a, k, xs, rfl, rfl, s, c'.1.1, c'.1.2, by rw [← q.len]; exact c3, fun z => ?_, fun _ _ p hp => tup_ok rh o (q.rep _) p hp⟩)
      have e : (List.replicate k.toNat ws).flatten = ws := by
        rcases z with z | z
        · subst z
          have : ws = [] := List.eq_nil_of_length_eq_zero (by rw [q.len]; rfl)
          rw [this]
          induction k.toNat with
          | zero => rfl
          | succ n ih => rw [List.replicate_succ, List.flatten_cons, ih]; rfl
        · rw [z]
          show ([ws] : List (List W)).flatten = ws
          simp
      rw [e] at o
      exact o m H _ rh Mv.refl (.tup s q)
  · rename_i n
    obtain ⟨rfl, hn⟩ := rw_ref ra
    simp only [gMul] at o
    split at o
    · rename_i ws e
      obtain ⟨xs, e1, q⟩ := rh.lst hn e
      cases c : cM k ws.length with
      | false => rw [c] at o; exact o.elim
      | true =>
        rw [c] at o
        have c' := c
        simp only [cM, Bool.and_eq_true, decide_eq_true_eq] at c'
        have c3 : ws.length ≤ 1000 := Nat.le_of_ble_eq_true c'.2
        refine .inr (.inr ⟨_, k, xs, rfl, rfl, e1, by omega, by omega, ?_, al_ok rh o (.lst (q.rep _))⟩)
        rw [← q.len]
        have h1 : k.toNat ≤ 1000 := by omega
        have h2 : ws.length * k.toNat ≤ 1000 * 1000 := Nat.mul_le_mul c3 h1
        exact Nat.le_trans h2 (by decide)
    · exact o.elim
theorem se_mul (hK : X.K = B.G.K) (ha : SE X B a fa) (hb : SE X B b fb) : SE X B (.BinOp a .Mult b pos) (e2 gMul fa fb) := se_op (r := rMulE B.G.K) (by rw [← hK]; exact op_mulE) os_mul ha hb
end
end EV
namespace EV
open PySem PySem.Spec PyProof.Rows L2
structure ExE (K : PySem.W.Frag) (mg : Str → Option Value) (cl : Cls) (x : Str) (k : Nat) : Prop where
  ex : ∃ C bmB Bn newId initId, ExcBaseFacts Bn newId initId bmB ∧ PySem.W.excIn K C bmB newId = true ∧ mg x = some (.ref C) ∧ cl k = some (.ref C) ∧ PySem.W.keepIn K (.ref C) = true ∧ PySem.W.subIn K (.ref C) (.type "BaseException") = some true ∧ PySem.W.typeIn K (.ref C) = some (.type "type")
structure ExN (K : PySem.W.Frag) (mg : Str → Option Value) (cl : Cls) (x : Str) (k : Nat) : Prop where
  ex : ∃ c, mg x = some c ∧ cl k = some c
  mt : ∀ j c c', cl j = some c → cl k = some c' → PySem.W.exmOne K c c' = some (Nat.beq j k)
section
variable {X : Cx} {B : Bx} {a b c e : Expr} {f f1 f2 fb : FS} {pos pos' p np : Pos} {x : Str} {k : Nat}
def RS.noX : RS → RS
  | .ex _ _ _ => .no
  | r => r
theorem OutS.noX {m : Nat → Addr} {h : Hpe} {H : Hp} {D : Ends} {r : RS} (o : OutS B m h H D r.noX) : OutS B.nox m h H D r := by
  cases r with
  | nx ρ' h' => exact o
  | ex x ρ' h' => exact o.elim
  | no => exact o
  | rt w h' => exact o
  | bk ρ' h' => exact o
  | ct ρ' h' => exact o
def hdl : List (Nat × FS) → EV.Exc → FS
  | [], x, ρ, h => .ex x ρ h
  | (k, f) :: r, x, ρ, h => bif Nat.beq x.cls k then (f ρ h).noX else hdl r x ρ h
inductive HE (X : Cx) (B : Bx) : List ExceptHandler → List (Nat × FS) → Prop
  | nil : HE X B [] []
  | cons {x : Str} {k : Nat} {f : FS} {b₀ : Stmt} {suite : List Stmt} {np pos' : Pos} {hds : List ExceptHandler} {l : List (Nat × FS)} (hg : Gl X x) (hdb : (x == ("__debug__" : Str)) = false) (C : ExN X.K X.mg B.cl x k)
      (hsu : ∀ (a : Addr) (oe : Obj) (pn : List (Addr × Obj)), SSs (X.suite a ((a, oe) :: pn)) B.nox (b₀ :: suite) f) (r : HE X B hds l) : HE X B (.ExceptHandler (some (.Name x np)) none (b₀ :: suite) pos' :: hds) ((k, f) :: l)
theorem HE.ok {hds : List ExceptHandler} {l : List (Nat × FS)} (hh : HE X B hds l) : ∃ ls, HdsOk X hds ls ∧ ∀ (D : Ends) (x : EV.Exc) (m : Nat → Addr) (h : Hpe) (ρ : Rho) (σ : L2.St) (H : Hp) (c : Value) (d : Option Addr), SS B.G B.cf m h ρ σ H → ExR B.G B.cl m h.nx H x c d → OutS B m h H D (hdl l x ρ h) → wMany X.K B.W D ls c d σ H := by
  induction hh with
  | nil => exact ⟨[], .nil, fun D x m h ρ σ H c d s r o => o m H σ c d s Mv.refl r⟩
  | @cons x k f b₀ suite np pos' hds l hg hdb C hsu r ih =>
    obtain ⟨ls, h1, h2⟩ := ih
    obtain ⟨cv, hm, hk⟩ := C.ex
    refine ⟨(cv, fun _ _ _ => tS B.nox f) :: ls, .cons ⟨hg, hdb, .inl hm⟩ (fun a oe cls d pn _ _ => hsu a oe pn) h1, fun D x m h ρ σ H c d s rx o => ?_⟩
    refine ⟨_, C.mt x.cls c cv rx.1 hk, fun hb a _ => ⟨m, h, ρ, s, ?_⟩, fun hb => h2 D x m h ρ σ H c d s rx ?_⟩
    · simp only [hdl, hb, cond_true] at o; exact o.noX
    · simp only [hdl, hb, cond_false] at o; exact o
end
end EV
namespace EV
open PySem PySem.Spec PyProof.Rows L2
section
variable {prog : Program} {w : World} {A : Around} {R : Result → Shared → Prop} {a : Addr}
end
section
variable {A : Around} {elt tg iter : Expr} {ifs : List Expr} {scope : Scope} {pos : Pos} {it acc : Value} {env : Env}
end
section
variable {prog : Program} {w : World} {A : Around} {elt tg iter : Expr} {ifs : List Expr} {scope : Scope} {pos : Pos} {it : Value} {cenv : Env}
end
end EV
namespace EV
open PySem PySem.Spec PyProof.Rows L2
section
variable {X : Cx} {pins : List (Addr × Obj)} {σ : L2.St} {H : Hp} {s : Shared}
end
end EV
set_option maxHeartbeats 4000000
namespace EV
open PySem PySem.Spec PyProof.Rows L2 GxR
section
variable {X : Cx} {c P : Addr} {elt tg iter : Expr} {ifs : List Expr} {scope : Scope} {own : List (Str × Nat)} {gpos : Pos} {wi : TI} {g : TG} {tt : TT} {te : TE} {k : Nat}
end
end EV
set_option maxHeartbeats 2000000
namespace EV
open PySem PySem.Spec PyProof.Rows L2 GxR
section
variable {X : Cx} {B : Bx} {tg elt iter : Expr} {ifs : List Expr} {fe : FE} {ft : FT} {fi : FI} {g : FG} {us vs : List Nat} {c P : Addr} {scope : Scope} {own : List (Str × Nat)} {p pos gpos : Pos} {k : Nat}
structure GnC (X : Cx) (B : Bx) (c P : Addr) : Prop where
  tb : TabB X.base X.mg c P
  tab : P ∈ B.G.tabs
  nl : P ∉ B.G.ltabs
end
structure FunC (K : PySem.W.Frag) (x qual : Str) (st : Stmt) (f : Addr) (fd : FuncData) (c : Addr) : Prop where
  ex : ∃ (oc : Value) (od : Option Addr) (kV doc pm : Value) (an : Option Addr) (ct : Value) (osl : Array (Option Value)),
    fd = PySem.W.fnOf x qual (defArgs st) (defBody st) (defScope st) .none kV doc pm an (.ref c) ct ∧ K.lookup f = some ⟨oc, od, .func fd, osl⟩ ∧ PySem.W.codeIn K (.ref c) qual = true
end EV
set_option maxHeartbeats 4000000
namespace EV
open PySem PySem.Spec PyProof.Rows L2
structure BaseE (B newId initId : String) (bm : List Value) : Prop where
  fb : ExcBaseFacts B newId initId bm
  pass : ∀ self : Value, refuseLoop self "__setattr__" bm = pure ()
  obj : bm.contains (.type "object") = true
  ty : typeOf (.type B) = pure (.type "type")
theorem base_LE : BaseE "LookupError" "LookupError.__new__" "LookupError.__init__" [.type "LookupError", .type "Exception", .type "BaseException", .type "object"] :=
  ⟨PySem.F.excBase_LookupError, PySem.F.store_LookupError.passes, by decide +kernel, by kernel_rfl⟩
theorem base_VE : BaseE "ValueError" "ValueError.__new__" "ValueError.__init__" [.type "ValueError", .type "Exception", .type "BaseException", .type "object"] :=
  ⟨PySem.F.excBase_ValueError, PySem.F.store_ValueError.passes, by decide +kernel, by kernel_rfl⟩
structure OwnE (K : PySem.W.Frag) (C : Addr) (newId : String) (bm : List Value) : Prop where
  cls : ∃ nm q N bs sn sub ab col dd k0 k1 k2 k3 k5, K.lookup C = some (excClassObj nm q C N bs bm true sn sub ab col dd k0 k1 k2 k3 k5 newId)
  sa : PySem.W.findIn K (.ref C) "__setattr__" = some (some (.builtin "object.__setattr__"))
  exC : PySem.W.subIn K (.ref C) (.type "BaseException") = some true
  tyC : PySem.W.typeIn K (.ref C) = some (.type "type")
  kC : PySem.W.keepIn K (.ref C) = true
section
open Builtin Builtin.ObjectAttr
variable {prog : Program} {w : World} {A : Around} {R : Result → Shared → Prop} {hp : Heap} {g : Array GenState} {d : Drawn} {t : Nat} {os : OsState}
theorem osa_first {K : PySem.W.Frag} {name : Str} {tk : Tok} {v : Value} {x C : Addr} {fv : Array Value} {cd : ClassData} {B newId initId : String} {bm : List Value} (BE : BaseE B newId initId bm)
    (X : K.In hp) (hx : hp.get? x = some { cls := .ref C, data := .fields fv }) (hcd : PySem.W.clsIn K C = some cd) (hm : cd.mro = .ref C :: bm) (hh : cd.hasDict = true) (ha : PySem.W.findIn K (.ref C) name = some none)
    (hq : ∀ h' tk' dx, (∀ b o, b ≠ x → hp.get? b = some o → h'.get? b = some o) → hp.objs.size ≤ dx → dx ≠ x → h'.get? x = some { cls := .ref C, dict := some dx, data := .fields fv } →
      h'.Ns1 dx (fun y => if y = name then some v else none) → R (.ok (.ret .none)) ⟨h', g, d, tk', os⟩) :
    codeAny (model prog w) A (.call (.builtin "object.__setattr__") ⟨[.ref x, .str name tk, v], []⟩) R ⟨hp, g, d, t, os⟩ := by
  have I : PySem.W.InstAt hp x { cls := .ref C, data := .fields fv } C none := ⟨hx, rfl, rfl, trivial⟩
  have SF := F.store_object
  have hob : cd.mro.contains (.type "object") = true := by rw [hm, List.contains_cons, BE.obj, Bool.or_true]
  have hxs : x ≠ hp.objs.size := Nat.ne_of_lt (Heap.lt_size hx)
  have sub : PySem.W.Looks (model prog w) hp (isInstance (.ref x) (.type "object")) true := I.type.andThen (PySem.W.looks_mroIn X (by unfold PySem.W.mroIn; rw [hcd, Option.bind_some, if_neg (by rw [hm]; exact Bool.false_ne_true), hob]))
  refine codeAny_call_builtin SF.slot.plain SF.entry (@PySem.W.check_slot (model prog w) _ _ ⟨hp, g, d, t, os⟩ "object.__setattr__" "object" "__setattr__" (.ref x) [.str name tk, v] [] _ SF.kind SF.split sub (SF.args (.ref x) (.str name tk) v) ?_)
  have hmr : PySem.W.Looks (model prog w) hp (mroOf (.ref C)) cd.mro := (PySem.W.looks_clsIn X hcd).andThen .now
  have L3 : PySem.W.Looks (model prog w) hp (storeTaker? none) none := .now
  have hcls : PySem.W.Looks (model prog w) hp (classData C) cd := PySem.W.looks_clsIn X hcd
  have hpass : refuseLoop (.ref x) "__setattr__" cd.mro = pure () := by rw [hm, refuseLoop_ref]; exact BE.pass _
  rw [PySem.W.osa_eq, refuse_eq]
  refine wpAny_bind (wpAny_bind (I.type.at (wpAny_bind (hmr.at ?_))))
  rw [hpass]
  refine wpAny_pure (wpAny_bind (I.type.at (wpAny_bind ((PySem.W.looks_findIn X ha).at (wpAny_bind (L3.at ?_))))))
  show wpAny _ _ (storeInOwnDict (.ref x) (.ref C) (.str name tk) name v false) _ _ _
  obtain ⟨nm, bs, mro, ns, qn, hd, sn, sb, ab, col, del⟩ := cd
  dsimp only at hh
  subst hh
  unfold storeInOwnDict ownDictForStores
  repeat (first | with_reducible refine PySem.HandSPX.store_in_new ?_ ?_ | with_reducible refine wpAny_loadPart_at hx ?_ | with_reducible refine hcls.at ?_ | wp_step)
  · exact ⟨_, #[], _, (Heap.get?_update_ne _ _ _ _ hxs.symm).trans (Heap.get?_push_at rfl rfl), rfl, fun e he => absurd he (by simp), fun _ => rfl⟩
  · intro h' tk' hn' hs
    have hx₁ : (hp.push { cls := .type "dict", data := .dict #[] }).get? x = some { cls := .ref C, data := .fields fv } := Heap.get?_push_of_some _ hx
    refine hq h' tk' hp.objs.size (fun b o hb ho => ?_) (Nat.le_refl _) hxs.symm ?_ hn'
    · exact (hs.2 b (Nat.ne_of_lt (Heap.lt_size ho))).trans ((Heap.get?_update_ne _ _ _ _ hb).trans (Heap.get?_push_of_some _ ho))
    · exact (hs.2 x hxs).trans (Heap.get?_update_self _ hx₁ rfl)
end
section
variable {X : Cx} {pins : List (Addr × Obj)} {σ : L2.St} {H : Hp} {s : Shared} {a C dx : Addr} {f : Str} {y : V} {u : Value} {Q : Unit → Shared → Prop} {E : Value → Shared → Prop} {A : Around} {B newId initId : String} {bm : List Value}
theorem ost_first (BE : BaseE B newId initId bm) (T : OwnE X.K C newId bm) (I : Inv X pins σ H s) (e : H a = some (exo a C none)) (hno : PySem.W.findIn X.K (.ref C) f = some none) (ry : RelV y u)
    (h : ∀ dx s', H dx = none → dx ≠ a → Inv X pins σ (upd (upd H dx (exd dx [(f, y)])) a (exo a C (some dx))) s' → Q () s') : wpAny (model X.prog X.w) A (setAttr (.ref a) f u) Q E s := by
  obtain ⟨nm, q, N, bs, sn, sub, ab, col, dd, k0, k1, k2, k3, k5, hC⟩ := T.cls
  have hcl : PySem.W.clsIn X.K C = some { name := nm, bases := bs, mro := .ref C :: bm, ns := N, qualname := q, hasDict := true, slotNames := sn, subclasses := sub, abstract := ab, collection := col, hasDel := false } := by unfold PySem.W.clsIn; rw [hC] <;> rfl
  obtain ⟨t1, ho⟩ := exo_at I.hok e
  obtain ⟨hp, g, d, t, os⟩ := s
  refine PySem.W.set_plain I.kIn (ox := { cls := .ref C, dict := none, data := .fields #[.ref t1, .none, .none, .none, .bool false, .none] }) (od := none) ⟨ho, rfl, rfl, trivial⟩ T.sa ?_
  refine osa_first BE I.kIn ho hcl rfl rfl hno (fun h' tk' dx k dn dne hx hn => ?_)
  have hnd : H dx = none := I.hok.fresh dn
  have nd : ∀ {b : Addr} {o : Obj}, hp.get? b = some o → b ≠ dx := fun {b o} q => Nat.ne_of_lt (Nat.lt_of_lt_of_le (Heap.lt_size q) dn)
  have na : ∀ {b : Addr}, H b = none → b ≠ a := fun {b} n z => by
    rw [z, e] at n
    cases n
  have Un1 : Un X.fs [] H (upd (upd H dx (exd dx [(f, y)])) a (exo a C (some dx))) hp h' := {
    keep := fun b o q n _ _ => k b o (na n) q
    slot := fun b o q n _ _ => ⟨o.slots, k b o (na n) q⟩
    free := fun b o q n _ => by rw [upd_ne (na n), upd_ne (nd q)]; exact n
    there := fun b o q _ => by
      by_cases hb : b = a
      · exact ⟨_, by rw [hb]; exact hx⟩
      · exact ⟨o, k b o hb q⟩
    tups := fun b xs q => by rw [upd_ne (at_ne e q exo_tup), upd_ne (ne_of_none q hnd)]; exact q
    frzs := fun b o v q => by rw [upd_ne (at_ne e q exo_frz), upd_ne (ne_of_none q hnd)]; exact q
    tbls := fun b ps q => ⟨#[], by rw [upd_ne (at_ne e q exo_tbl), upd_ne (ne_of_none q hnd), q]; simp⟩ }
  refine h dx _ hnd dne (I.un (t' := tk') Un1 fun b o q => ?_)
  by_cases hb : b = a
  · subst hb
    rw [upd_same] at q
    cases q
    exact exo_ok hx
  · rw [upd_ne hb] at q
    by_cases hd : b = dx
    · subst hd
      rw [upd_same] at q
      cases q
      exact exd_ok hn (relO_put (fs := []) ry fun g => True.intro)
    · rw [upd_ne hd] at q
      exact (I.hok b o q).stay (fun c v hc z => k c v (by
          rcases hc with hc | hc
          · rw [hc]
            exact hb
          · exact at_ne e hc exo_own) z)
        (fun c hc => by rw [upd_ne (at_ne e hc exo_own), upd_ne (ne_of_none hc hnd)]; exact hc) (fun c xs hc => by rw [upd_ne (at_ne e hc exo_tup), upd_ne (ne_of_none hc hnd)]; exact hc)
theorem oinit_first {us : List Value} {Q : Value → Shared → Prop} (BE : BaseE B newId initId bm) (T : OwnE X.K C newId bm) (I : Inv X pins σ H s) (e : H a = some (exo a C none)) (hl : us.length ≤ sizeLine) (h : ∀ s', Inv X pins σ H s' → Q .none s') :
    wpAny (model X.prog X.w) A (call (.builtin initId) (.ref a :: us)) Q E s := by
  obtain ⟨nm, q, N, bs, sn, sub, ab, col, dd, k0, k1, k2, k3, k5, hC⟩ := T.cls
  obtain ⟨t1, ho⟩ := exo_at I.hok e
  obtain ⟨hp, g, d, t, os⟩ := s
  refine wpAny_call (PySem.HandSPX.init_base BE.fb (fun Y => rfl) (I.kIn _ _ hC) ho hl fun h' t2 k hx => ?_)
  have J := I.write (t' := t) (x := a) (e := a) (o := exo a C none) (by rw [e]; exact True.intro) (.inl rfl) k ⟨_, hx⟩ (exo_ok hx)
  have eu : upd H a (exo a C none) = H := by
    funext b
    by_cases hb : b = a
    · rw [hb, upd_same, e]
    · rw [upd_ne hb]
  rw [eu] at J
  exact h _ J
end
end EV
namespace EV
open PySem PySem.Spec PyProof.Rows L2
def tBi (K : PySem.W.Frag) (newId : String) (bm : List Value) (ta : TA) : TE := fun σ H Q => ta σ H fun vs H1 => ∃ (a C : Addr) (ws : List V), vs = .ref a :: ws ∧ ws.length ≤ 1000 ∧ OwnE K C newId bm ∧ H1 a = some (exo a C none) ∧ Q .non H1
def tOs1 (K : PySem.W.Frag) (newId : String) (bm : List Value) (f : Str) (to te : TE) : TS := fun D σ H => te σ H fun y H1 => to σ H1 fun x H2 => ∃ a C : Addr, x = .ref a ∧ OwnE K C newId bm ∧ PySem.W.findIn K (.ref C) f = some none ∧
  H2 a = some (exo a C none) ∧ ∀ dx, H2 dx = none → dx ≠ a → D.nx σ (upd (upd H2 dx (exd dx [(f, y)])) a (exo a C (some dx)))
section
variable {X : Cx} {o e : Expr} {es : List Expr} {to te : TE} {ta : TA} {f x : Str} {p p' p1 p2 pos : Pos} {B newId initId : String} {bm : List Value}
theorem pe_binit {pl : Sem Bool} (BE : BaseE B newId initId bm) (hg : Gl X x) (hm : X.mg x = none) (hv : bootBuiltins x = some (.type B)) (hnn : x ≠ "__name__") (hdb : (x == ("__debug__" : Str)) = false) (hstub : Manifest.isStub B = false) (hh : PySem.W.handedIn (.builtin initId) = true)
    (vV : PySem.W.findCls X.K (.type B) (.type "type") "__init__" = some (.val (.builtin initId))) (ha : PA X (e :: es) ta)
    (hc : eval (.Call (.Attribute (.Name x p1) "__init__" p2) (e :: es) [] pos) X.env = (do
      let ov ← eval (.Name x p1) X.env
      standAt p2.atName
      let (f, first) ← holding [ov] (getMethod ov "__init__" pl)
      callWith pos f first (backTo pos (starEach (e :: es) X.env)) (backToKw pos (keywordEach [] X.env))))
    (he : starEach (e :: es) X.env = (false, eval e X.env) :: starEach es X.env) (hpl : (backTo pos (starEach es X.env)).any (·.1) = false) :
    PE X (.Call (.Attribute (.Name x p1) "__init__" p2) (e :: es) [] pos) (tBi X.K newId bm ta) := by
  refine ⟨fun pins s σ H Q I h => ?_⟩
  refine PySem.W.methodCall_KW (ld_blt I hg hm hv ?_ hnn hdb) hc
  obtain ⟨m, fr⟩ := I.fr
  refine PySem.W.method_type fr I.ok.mod.kin BE.ty hstub vV hh ?_
  show wpAny _ _ (callWith pos (Value.builtin initId) [] (backTo pos (starEach (e :: es) X.env)) []) _ _ _
  refine PyProof.Rows.callWith_method1 (thn (ha.run pos pins _ σ H _ (I.tok _) h) fun us s1 ⟨vs, H1, I1, r1, a, C, ws, ev, hl, T, ea, q⟩ => ?_) he hpl
  subst ev
  cases r1 with
  | @cons _ u0 _ ur ra rw' =>
    obtain rfl : u0 = Value.ref a := ra
    have hlen : ur.length ≤ sizeLine := by
      rw [← Paired.length rw', sizeLine_eq]
      omega
    exact oinit_first BE T I1 ea hlen fun s' J => ⟨.non, H1, J, rfl, q⟩
theorem ps_os1 (BE : BaseE B newId initId bm) (ho : PE X o to) (he : PE X e te) (hs : swapsWith e (some (.Attribute o f p')) pos.line X.env = pure false) : PS X (.Assign [.Attribute o f p'] e pos) (tOs1 X.K newId bm f to te) := by
  refine ⟨fun pins s σ H D I h => ?_⟩
  refine plainObj_wpAny_Assign_Attribute (thn (he.run pins s σ H _ I h) fun v s1 ⟨y, H1, I1, r1, q1⟩ => thn (ho.run pins s1 σ H1 _ I1 q1) fun u s2 ⟨x, H2, I2, r2, a, C, ex, T, hno, ea, q⟩ => ?_) hs
  subst ex
  obtain rfl : u = Value.ref a := r2
  exact ost_first BE T I2 ea hno r1 fun dx s' n ne J => ⟨σ, _, J, q dx n ne⟩
theorem pmk_own1 {CX : CXT} {C fI : Addr} {k : Nat} {fd : FuncData} {ps : List Str} {sp : Sp} (BE : BaseE B newId initId bm) (T : OwnE X.K C newId bm) (iC : PySem.W.findIn X.K (.ref C) "__init__" = some (some (.ref fI))) (tI : PySem.W.typeIn X.K (.ref fI) = some (.type "function"))
    (F1 : FnOk X.prog X.w X.K X.mg X.base CX k fI fd ps sp) (hr : Room (k + 1) X.A) (hb : Binds X.K fd ps []) (hx : Passes CX X (fun _ _ _ => False)) (hg : Gl X x) (hm : X.mg x = some (.ref C)) (ha : PA X (e :: es) ta)
    (hdb : (x == ("__debug__" : Str)) = false) (he : starEach (e :: es) X.env = (false, eval e X.env) :: starEach es X.env) (hpl : (backTo pos (starEach es X.env)).any (·.1) = false) :
    PMk X (.Call (.Name x p) (e :: es) [] pos) (tMkO C sp [] ta) := by
  intro pins s σ H Q I h
  obtain ⟨nm, q, N, bs, sn, sub, ab, col, dd, k0, k1, k2, k3, k5, hC⟩ := T.cls
  refine wpAny_Call_Name_kw (ld_glob I hg hm ?_ hdb)
  refine PySem.W.callWith_K (h₀ := X.base) I.ok.mod.kin T.kC (thn (ha.run pos pins s σ H _ I h) fun us s1 ⟨vs, H1, I1, r1, hz, q1⟩ => ⟨I1.kIn, ?_⟩) he hpl
  show wpAny _ _ (call (.ref C) us) _ _ _
  obtain ⟨hp, g, dr, tk, os⟩ := s1
  have hsz : hp.objs.size ≤ hp.objs.size + 1 := Nat.le_succ _
  have hn : H1 (hp.objs.size + 1) = none := I1.hok.fresh hsz
  have hq := q1 (hp.objs.size + 1) hn
  have kk : ∀ b o, hp.get? b = some o → ((hp.push (PySem.W.kdv_tup us)).push (PySem.HandSPX.excO C hp.objs.size)).get? b = some o := fun b o e => Heap.get?_push_of_some _ (Heap.get?_push_of_some _ e)
  have hget : ((hp.push (PySem.W.kdv_tup us)).push (PySem.HandSPX.excO C hp.objs.size)).get? (hp.objs.size + 1) = some (PySem.HandSPX.excO C hp.objs.size) := by heap_get
  have I2 : Inv X pins σ (upd H1 (hp.objs.size + 1) (exo (hp.objs.size + 1) C none)) ⟨(hp.push (PySem.W.kdv_tup us)).push (PySem.HandSPX.excO C hp.objs.size), g, dr, tk, os⟩ :=
    I1.laid (t' := tk) (a := hp.objs.size + 1) (o := exo (hp.objs.size + 1) C none) (h' := (hp.push (PySem.W.kdv_tup us)).push (PySem.HandSPX.excO C hp.objs.size)) kk hsz (exo_ok hget)
  have r2 : Vals (V.ref (hp.objs.size + 1) :: (vs ++ [])) (Value.ref (hp.objs.size + 1) :: (us ++ [])) := .cons rfl (r1.append .nil)
  have hl : (Value.ref (hp.objs.size + 1) :: us ++ []).length = ps.length := by
    have e := r2.length
    rw [F1.len _ _ _ _ hq] at e
    exact e.symm
  have hus : us.length ≤ sizeLine := by
    rw [← Paired.length r1, sizeLine_eq]
    omega
  refine wpAny_call (PySem.HandSPX.call_own BE.fb (fun Y => rfl) (I1.kIn _ _ hC) (PySem.W.looks_findIn I1.kIn iC) (fun self => PySem.W.bind_fn I1.kIn self tI) hus
    (codeAny_mono (F1.run _ X.stack _ _ ⟨Value.ref (hp.objs.size + 1) :: us, []⟩ (Value.ref (hp.objs.size + 1) :: (us ++ [])) _ _ (fun _ _ _ => False) (hr.make C us []) (I2.env0.make C us []) (by have z := hb _ (Value.ref (hp.objs.size + 1) :: us) I2.kIn hl; rwa [List.cons_append] at z) r2 hq) fun r s' hq' => ?_))
  cases r with
  | error er => exact hx pins σ _ _ er s' I2 hq'
  | ok fl =>
    cases fl with
    | ret u =>
      obtain ⟨v, H2, os2, bare2, un2, hok2, rv, ev, d, fs, ea, ed, hd1, q2⟩ := hq'
      subst ev
      obtain ⟨h2, g2, d2, t2, os'⟩ := s'
      exact ⟨rv, mk_end (raises_own T.exC T.tyC) I1 hsz kk un2 hok2 os2 bare2 ea ed hd1 q2⟩
    | next => exact False.elim hq'
    | brk => exact False.elim hq'
    | cont => exact False.elim hq'
end
def spI (C : Addr) (f : Str) : Sp := fun vs H Q _ => ∃ (a : Addr) (i : Int), vs = [.ref a, .int i] ∧ i.natAbs.log2 < 1920 ∧ H a = some (exo a C none) ∧ ∀ dx, H dx = none → dx ≠ a → Q .non (upd (upd H dx (exd dx [(f, .int i)])) a (exo a C (some dx)))
theorem tJs_one {a b : Str} {σ : L2.St} {H : Hp} {Q : Str → Hp → Prop} {i : Int} (ha : a.length ≤ 1000) (hb : b.length ≤ 1000) (hi : i.natAbs.log2 < 1920) (hs : σ[1]? = some (some (.int i))) (q : ∀ out, Q out H) :
    tJs [L2.tC (.str a), tFmt (tVar 1), L2.tC (.str b)] Str.empty σ H Q ∧ tJs [L2.tC (.str a), tFmt (tVar 1)] Str.empty σ H Q := by
  have ht : (Str.ofString (toString i)).length ≤ 1921 := by rw [PySem.ofString_length]; exact int_text_length_le (by decide) hi
  have h0 : (Str.empty : Str).length = 0 := rfl
  have sl : (sizeLine : Nat) = 16777216 := by decide
  have l1 : (Str.empty ++ a).length ≤ sizeLine := by rw [Str.length_append, h0, sl]; omega
  have l2 : (Str.empty ++ a ++ Str.ofString (toString i)).length ≤ sizeLine := by rw [Str.length_append, Str.length_append, h0, sl]; omega
  refine ⟨⟨a, rfl, l1, ?_⟩, ⟨a, rfl, l1, ?_⟩⟩
  · refine ⟨.int i, hs, .inr ⟨i, rfl, hi, _, rfl, l2, b, rfl, ?_, q _⟩⟩
    rw [Str.length_append, Str.length_append, Str.length_append, h0, sl]; omega
  · exact ⟨.int i, hs, .inr ⟨i, rfl, hi, _, rfl, l2, q _⟩⟩
end EV
namespace EV
open PySem PySem.Spec PyProof.Rows L2
structure ExI (P : Program) (w : World) (K : PySem.W.Frag) (mg : Str → Option Value) (base : Heap) (cl : Cls) (x f : Str) (k : Nat) : Prop where
  ex : ∃ C B newId initId bm fI fd ps, BaseE B newId initId bm ∧ OwnE K C newId bm ∧ mg x = some (.ref C) ∧ cl k = some (.ref C) ∧ PySem.W.findIn K (.ref C) "__init__" = some (some (.ref fI)) ∧ PySem.W.typeIn K (.ref fI) = some (.type "function") ∧
    FnOk P w K mg base (L2.CX P w) 1 fI fd ps (spI C f) ∧ Binds K fd ps []
theorem passes_no {X : Cx} : Passes (L2.CX X.prog X.w) X (fun _ _ _ => False) := fun pins σ H s e s' I c => by
  obtain ⟨_, _, _, _, _, _, _, _, _, _, _, _, z⟩ := c
  exact z.elim
def okI (i : Int) : Bool := Nat.blt (Nat.log2 i.natAbs) 1920
def sRs1 (k : Nat) (f : Str) (fs : FA) : FS := fun ρ h => bindS (fs ρ h) ρ fun ws h1 => match ws with
  | [.int i] => bif okI i then .ex ⟨k, [(f, .int i)]⟩ ρ h1 else .no
  | _ => .no
section
variable {X : Cx} {B : Bx} {e : Expr} {es : List Expr} {fs : FA} {p pos pos' : Pos} {x f : Str} {k j : Nat}
theorem ss_raise1 (hc : X.calm = true) (tk : Takes X B.W) (C : ExI X.prog X.w X.K X.mg X.base B.cl x f k) (hr : Room j X.A) (hj : 2 ≤ j) (hg : Gl X x) (ha : SA X B (e :: es) fs) (hdb : (x == ("__debug__" : Str)) = false)
    (he : starEach (e :: es) X.env = (false, eval e X.env) :: starEach es X.env) (hpl : (backTo pos (starEach es X.env)).any (·.1) = false) : SSt X B (.Raise (some (.Call (.Name x p) (e :: es) [] pos)) none pos') (sRs1 k f fs) := by
  obtain ⟨C, Bn, newId, initId, bm, fI, fd, ps, BE, T, hm, hcl, iC, tI, F, hb⟩ := C.ex
  refine ps_imp (ps_raise hc tk (pmk_own1 (CX := L2.CX X.prog X.w) BE T iC tI F (hr.mono hj) hb passes_no hg hm ha hdb he hpl)) fun D σ H ⟨m, h, ρ, s, o⟩ => ⟨m, h, ρ, s, (OutS.bind s o).mono fun vs H1 ⟨ws, m1, h1, r1, v1, q1, o1⟩ => ?_⟩
  match ws, q1, o1 with
  | [.int i], q1, o1 =>
    obtain ⟨v, rfl, rv⟩ := rws_one q1
    obtain rfl := rw_int rv
    simp only at o1
    cases ci : okI i with
    | false => rw [ci] at o1; exact o1.elim
    | true =>
      rw [ci] at o1
      have hi : i.natAbs.log2 < 1920 := Nat.le_of_ble_eq_true ci
      refine ⟨by simp, fun a ha => ⟨a, i, rfl, hi, upd_same, fun dx hdx hne => ⟨rfl, dx, [(f, .int i)], upd_same, ?_, ?_, ?_⟩⟩⟩
      · rw [upd_ne hne, upd_same]
      · rwa [upd_ne hne] at hdx
      · have hdx1 : H1 dx = none := by rwa [upd_ne hne] at hdx
        have eH : upd (del (upd (upd (upd H1 a (exo a C none)) dx (exd dx [(f, V.int i)])) a (exo a C (some dx))) a) dx (.xd [(f, .int i)]) = upd H1 dx (.xd [(f, .int i)]) := by
          funext b
          by_cases hb : b = dx
          · subst hb; rw [upd_same, upd_same]
          · rw [upd_ne hb, upd_ne hb]
            by_cases hb2 : b = a
            · subst hb2; rw [del_same, ha]
            · rw [del_ne hb2, upd_ne hb2, upd_ne hb, upd_ne hb2]
        rw [eH]
        obtain ⟨r2, v2⟩ := r1.tupNew (ho := .xd [(f, .int i)]) hdx1
        exact o1 m1 _ σ _ _ ((s.mv r1 v1).mv r2 v2) v2 ⟨hcl, .inr ⟨dx, _, rfl, upd_same, rfl, .cons (.int i) .nil⟩⟩
end
end EV
namespace EV
open PySem PySem.Spec PyProof.Rows L2
abbrev Cl3 := Value × Option Nat × (Addr → Value → Option Addr → TS)
def endsAs (i : Nat) (D : Ends) : Ends := { nx := fun σ' H' => D.nx (σ'.set i none) H', rt := D.rt, bk := fun σ' H' => D.bk (σ'.set i none) H', ct := fun σ' H' => D.ct (σ'.set i none) H' }
def runC (D : Ends) (a : Addr) (cls : Value) (d : Option Addr) (σ : L2.St) (H : Hp) : Option Nat → (Addr → Value → Option Addr → TS) → Prop
  | none, ts => ts a cls d D σ H
  | some i, ts => ts a cls d (endsAs i D) (σ.set i (some (.ref a))) H
def wMix (K : PySem.W.Frag) (Wout : WX) (D : Ends) : List Cl3 → WX
  | [] => Wout
  | c :: r => fun cls d σ H => ∃ b, PySem.W.exmOne K cls c.1 = some b ∧ (b = true → ∀ a, H a = none → runC D a cls d σ H c.2.1 c.2.2) ∧ (b = false → wMix K Wout D r cls d σ H)
inductive HdsM (X : Cx) : List ExceptHandler → List Cl3 → Prop
  | nil : HdsM X [] []
  | cons {x : Str} {on : Option Str} {oi : Option Nat} {c : Value} {ts : Addr → Value → Option Addr → TS} {b₀ : Stmt} {suite : List Stmt} {np pos' : Pos} {hds : List ExceptHandler} {l : List Cl3} (hc : Names X x c)
      (hn : (on = none ∧ oi = none) ∨ ∃ n i, on = some n ∧ oi = some i ∧ X.N[i]? = some n ∧ X.env.kindOf n = some .local)
      (hsu : ∀ (a : Addr) (oe : Obj) (cls : Value) (d : Option Addr) (pn : List (Addr × Obj)), Zc cls d oe → (∃ vs, oe.data = .fields vs) → PSs (X.suite a ((a, oe) :: pn)) (b₀ :: suite) (ts a cls d)) (r : HdsM X hds l) :
      HdsM X (.ExceptHandler (some (.Name x np)) on (b₀ :: suite) pos' :: hds) ((c, oi, ts) :: l)
section
variable {X : Cx} {body : List Stmt} {h₀ : ExceptHandler} {hds : List ExceptHandler} {l : List Cl3} {pos : Pos} {tb : WX → TS} {Wout : WX}
theorem ps_try_mix (hN : X.N.Nodup) (hs : X.stack = X.env :: X.outer) (hf : X.env.frame = some X.env.locals) (tk : Takes X Wout)
    (hb : ∀ (W : WX) (pn : List (Addr × Obj)) (xe : Value → Shared → Prop), Takes (X.tr pn xe) W → PassesOwn (model X.prog X.w) X.A X.env xe → PSs (X.tr pn xe) body (tb W))
    (hh : HdsM X (h₀ :: hds) l) : PS X (.Try body (h₀ :: hds) [] [] pos) (fun D σ H => tb (wMix X.K Wout D l) D σ H) := by
  refine ⟨fun pins s σ H D I h => ?_⟩
  have ok := I.ok
  have hfr : X.A.frames = some (X.env :: X.outer) := by rw [ok.frames, hs]
  refine wpAny_Try_except ?_
  refine wpAny_mono ((hb (wMix X.K Wout D l) (X.pn ++ pins) (fun e s₁ => wpAny (model X.prog X.w) X.A (noteFrame e X.env) (fun _ s₂ => wpAny (model X.prog X.w) X.A (setFlight e none) (fun _ s₃ =>
    wpAny (model X.prog X.w) X.A (handleBy e X.env (h₀ :: hds)) (SP X pins D) X.xe s₃) X.xe s₂) X.xe s₁) (fun u s' xx => ?_) PassesOwn.looking).run [] s σ H D (I.toTry _) h) (fun f s1 hsp => ?_) (fun e s1 he => he)
  · obtain ⟨a, B, sI, pins', σ', H', cls, d, rfl, J', nb, up, sky, na, os, ag, w⟩ := xx
    have J : Inv X pins σ' H' sI := J'.ofTry ok
    have sky' : Sky B (X.env :: X.outer) a (Zc cls d) X.env.locals s'.heap := by rw [← hs]; exact sky
    show wpAny (model X.prog X.w) X.A (noteFrame (.ref a) X.env) _ _ _
    refine Sky.land Zc.steady hfr hf sky' fun h3 fl3 up3 => ?_
    -- an object of the suite's own context, wherever the error lies
    have nfr : ∀ {h : Heap} {o : Obj} {vs : Array Value}, h.FunFrames B (X.env :: X.outer) → h.get? a = some o → o.data = .fields vs → a ∉ frs (X.env :: X.outer) := fun {h o vs} ff e dd hm => by
      obtain ⟨_, o', e', hnf⟩ := ff.mem hm
      rw [e] at e'; cases e'
      exact hnf _ dd
    have J3 : Inv X pins σ' H' { s' with heap := h3 } := J.landed nb fl3.1 (up.trans up3) os ag
    obtain ⟨oe3, vs3, he3, hz3, hd3⟩ := fl3.there
    have nfr3 := nfr fl3.2.2.1 he3 hd3
    have nL : a ≠ X.env.locals := fun z => nfr3 (List.mem_filterMap.mpr ⟨X.env, List.mem_cons_self, by rw [hf, z]⟩)
    have nF : a ∉ X.fs := fun hm => by
      obtain ⟨e, he, q⟩ := List.mem_filterMap.mp hm
      exact nfr3 (List.mem_filterMap.mpr ⟨e, List.mem_cons_of_mem _ he, q⟩)
    have go : ∀ {hds' : List ExceptHandler} {l' : List Cl3}, HdsM X hds' l' → wMix X.K Wout D l' cls d σ' H' → wpAny (model X.prog X.w) X.A (handleBy (.ref a) X.env hds') (SP X pins D) X.xe { s' with heap := h3 } := by
      intro hds' l' hk
      induction hk with
      | nil =>
        intro w
        refine wpAny_handleBy_nil ?_
        obtain ⟨k1, k2, k3, oe, vs, T, oT, ts', he, hz, hd, h1, hr⟩ := id fl3
        unfold PySem.passOn
        refine wpAny_bind (wpAny_field he hd h1 ?_)
        rw [if_neg (show ¬ ((Value.ref T == Value.none) = true) from by simp)]
        have fin : wpAny (model X.prog X.w) X.A (setFlight (.ref a) X.env.frame) (fun _ s4 => wpAny (model X.prog X.w) X.A (throw (.ref a) : Sem Flow) (SP X pins D) X.xe s4) X.xe { s' with heap := h3 } := by
          rw [hf]
          refine HandSPX.setFlight_upZ fl3 fun h4 hh4 up4 => wpAny_throw (tk _ _ ?_)
          exact ⟨a, B, sI, pins, σ', H', cls, d, rfl, J, nb, (up.trans up3).trans up4, .inr (.inr (by rw [hs]; exact hh4)), na, os, ag, w⟩
        first
          | exact wpAny_bind (wpAny_pure (wpAny_bind fin))
          | exact wpAny_bind fin
      | @cons x on oi c ts b₀ suite np pos' hds2 l2 hc hn hsu r ih =>
        intro w
        obtain ⟨b, hb1, hyes, hno⟩ := w
        refine wpAny_handleBy_cons (codeAny_handlers_test ?_) (by intro q; cases q)
        have LT : PySem.W.Looks (model X.prog X.w) h3 (typeOf (.ref a)) cls := fun A Q E s k q => wpAny_typeOf_ref (k _ _ he3) (by rw [hz3.1]; exact q)
        have LM := PySem.W.exm_one (M := model X.prog X.w) (J3.kIn) LT hb1
        have S3 := J3.suite he3 hd3 na nL nF
        have test : ∀ {Q : Value → Shared → Prop} {E : Value → Shared → Prop}, Q c { s' with heap := h3 } → wpAny (model X.prog X.w) (X.A.mark (some (.ref a))) (eval (.Name x np) X.env) Q E { s' with heap := h3 } := fun {Q E} q => by
          obtain ⟨hg, hdbg, hm | ⟨hm, hv, hnn⟩⟩ := hc
          · exact ld_glob (X := X.suite a ((a, oe3) :: (X.pn ++ pins))) S3 hg hm q hdbg
          · exact ld_blt (X := X.suite a ((a, oe3) :: (X.pn ++ pins))) S3 hg hm hv q hnn hdbg
        refine test (LM.here ?_)
        cases b with
        | false =>
          show wpAny _ X.A (handleBy (.ref a) X.env hds2) _ _ _
          exact ih (hno rfl)
        | true =>
          have yes := hyes rfl a na
          rcases hn with ⟨rfl, rfl⟩ | ⟨n, i, rfl, rfl, hi, hln⟩
          · refine codeAny_handlers_suite ?_
            refine HandSPX.lands_againZ fl3 fun h4 fl4 up4 => ?_
            have J4 : Inv X pins σ' H' { s' with heap := h4 } := J.landed nb fl4.1 ((up.trans up3).trans up4) os ag
            obtain ⟨oe4, vs4, he4, hz4, hd4⟩ := fl4.there
            refine wpAny_mono ((hsu a oe4 cls d (X.pn ++ pins) hz4 ⟨_, hd4⟩).run [] _ _ H' _ (J4.suite he4 hd4 na nL nF) yes) (fun f s6 hsp => ?_) (fun _ _ z => False.elim z)
            cases f with
            | next => exact let ⟨σ6, H6, S6, q6⟩ := hsp; ⟨_, _, S6.unsuite ok, q6⟩
            | brk => exact let ⟨σ6, H6, S6, q6⟩ := hsp; ⟨_, _, S6.unsuite ok, q6⟩
            | cont => exact let ⟨σ6, H6, S6, q6⟩ := hsp; ⟨_, _, S6.unsuite ok, q6⟩
            | ret u => exact let ⟨v6, σ6, H6, S6, r6, q6⟩ := hsp; ⟨_, _, _, S6.unsuite ok, r6, q6⟩
          · refine codeAny_handlers_suite_as ?_
            refine HandSPX.lands_againZ fl3 fun h4 fl4 up4 => ?_
            have J4 : Inv X pins σ' H' { s' with heap := h4 } := J.landed nb fl4.1 ((up.trans up3).trans up4) os ag
            obtain ⟨oe4, vs4, he4, hz4, hd4⟩ := fl4.there
            refine store_ok (X := X.suite a ((a, oe4) :: (X.pn ++ pins))) (v := .ref a) (J4.suite he4 hd4 na nL nF) hN hi (.inl hln) rfl (fun s5 S5 => ?_) (.inr hln)
            refine wpAny_mono ((hsu a oe4 cls d (X.pn ++ pins) hz4 ⟨_, hd4⟩).run [] s5 _ H' _ S5 yes) (fun f s6 hsp => ?_) (fun _ _ z => False.elim z)
            have end_ : ∀ {σ6 : L2.St} {H6 : Hp} {Q : Shared → Prop}, Inv (X.suite a ((a, oe4) :: (X.pn ++ pins))) [] σ6 H6 s6 → (∀ s7, Inv X pins (σ6.set i none) H6 s7 → Q s7) →
                wpAny (model X.prog X.w) X.A (do bindName X.env n .none; unbindBehindTheSuite X.env n pos') (fun _ s7 => Q s7) X.xe s6 := fun {σ6 H6 Q} S6 hq => gone_ok (S6.unsuite ok) hN hi hln hq
            cases f with
            | next => exact let ⟨σ6, H6, S6, q6⟩ := hsp; end_ S6 fun s7 J7 => ⟨_, _, J7, q6⟩
            | brk => exact let ⟨σ6, H6, S6, q6⟩ := hsp; end_ S6 fun s7 J7 => ⟨_, _, J7, q6⟩
            | cont => exact let ⟨σ6, H6, S6, q6⟩ := hsp; end_ S6 fun s7 J7 => ⟨_, _, J7, q6⟩
            | ret u => exact let ⟨v6, σ6, H6, S6, r6, q6⟩ := hsp; end_ S6 fun s7 J7 => ⟨_, _, _, J7, r6, q6⟩
    exact go hh w
  · cases f with
    | next => exact let ⟨σ', H', J', q⟩ := hsp; wpAny_execs_nil ⟨σ', H', J'.ofTry ok, q⟩
    | brk => exact let ⟨σ', H', J', q⟩ := hsp; ⟨σ', H', J'.ofTry ok, q⟩
    | cont => exact let ⟨σ', H', J', q⟩ := hsp; ⟨σ', H', J'.ofTry ok, q⟩
    | ret u => exact let ⟨v, σ', H', J', r, q⟩ := hsp; ⟨v, σ', H', J'.ofTry ok, r, q⟩
end
end EV
namespace EV
open PySem PySem.Spec PyProof.Rows L2
abbrev FX := EV.Exc → FE
abbrev FXA := EV.Exc → FA
abbrev FXS := EV.Exc → FS
structure Er where
  a : Addr
  cls : Value
  d : Option Addr
  i : Nat
  k : Nat
def HasE (B : Bx) (R : Er) (m : Nat → Addr) (h : Hpe) (σ : L2.St) (H : Hp) (x : EV.Exc) : Prop := σ[R.i]? = some (some (.ref R.a)) ∧ x.cls = R.k ∧ ExR B.G B.cl m h.nx H x R.cls R.d
def tXE (B : Bx) (R : Er) (f : FX) : TE := fun σ H Q => ∃ m h ρ x, SS B.G B.cf m h ρ σ H ∧ HasE B R m h σ H x ∧ Out B.G B.cl (RW B.G) (fun _ _ _ => False) m h H (f x ρ h) Q
def tXA (B : Bx) (R : Er) (f : FXA) : TA := fun σ H Q => ∃ m h ρ x, SS B.G B.cf m h ρ σ H ∧ HasE B R m h σ H x ∧ Out B.G B.cl (RWs B.G) (fun _ _ _ => False) m h H (f x ρ h) Q
def tXS (B : Bx) (R : Er) (f : FXS) : TS := fun D σ H => ∃ m h ρ x, SS B.G B.cf m h ρ σ H ∧ HasE B R m h σ H x ∧ OutS B.nox m h H D (f x ρ h)
def SXE (X : Cx) (B : Bx) (R : Er) (e : Expr) (f : FX) : Prop := PE X e (tXE B R f)
def SXA (X : Cx) (B : Bx) (R : Er) (es : List Expr) (f : FXA) : Prop := PA X es (tXA B R f)
def SXs (X : Cx) (B : Bx) (R : Er) (st : List Stmt) (f : FXS) : Prop := PSs X st (tXS B R f)
structure ExV (K : PySem.W.Frag) (cl : Cls) (k : Nat) : Prop where
  c : ∀ c, cl k = some c → ∃ D, c = .ref D ∧ ExcC K D
theorem HasE.mv {B : Bx} {R : Er} {m m1 : Nat → Addr} {h h1 : Hpe} {σ : L2.St} {H H1 : Hp} {x : EV.Exc} (e : HasE B R m h σ H x) (rh : RH B.G m h H) (v : Mv m h.nx H m1 h1.nx H1) : HasE B R m1 h1 σ H1 x :=
  ⟨e.1, e.2.1, e.2.2.mono v.old v.le (v.tupk rh) fun dx kus q => v.stay q (fun i hi z => by
    obtain ⟨o, ho, _, e1, r⟩ := rh.obj i hi
    rw [z, q] at e1; cases e1; cases r) fun _ z => by cases z⟩
theorem lookup_fs {G : GC} {m : Nat → Addr} {n : Nat} {H : Hp} {f : Str} : ∀ {fs : List (Str × W)} {kus : List (Str × V)} {w : W}, fs.map (·.1) = kus.map (·.1) → RWs G m n H (fs.map (·.2)) (kus.map (·.2)) → fs.lookup f = some w → ∃ v, kus.lookup f = some v ∧ RW G m n H w v
  | [], _, _, _, _, h => by simp at h
  | (g, w0) :: fs, [], _, h, _, _ => by simp at h
  | (g, w0) :: fs, (g', v0) :: kus, w, h1, h2, h3 => by
    simp only [List.map_cons, List.cons.injEq] at h1
    obtain ⟨rfl, h1⟩ := h1
    simp only [List.map_cons] at h2
    cases h2 with
    | cons ra rb =>
      rw [List.lookup_cons] at h3 ⊢
      cases c : f == g with
      | true => rw [c] at h3; cases h3; exact ⟨v0, rfl, ra⟩
      | false => rw [c] at h3; exact lookup_fs h1 rb h3
section
variable {X : Cx} {B : Bx} {R : Er} {oe : Obj} {pn : List (Addr × Obj)} {a b c e : Expr} {es : List Expr} {f fa fb fc : FX} {fs : FXA} {g : FE} {pos p p2 : Pos} {n x y : Str} {j : Nat}
theorem sx_of (he : SE X B.nox e g) : SXE X B R e (fun _ => g) := pe_imp he fun σ H Q ⟨m, h, ρ, x, s, _, o⟩ => ⟨m, h, ρ, s, o⟩
def xFld (n : Str) : FX := fun x _ h => match x.fs.lookup n with
  | some w => .ok w h
  | none => .no
theorem sx_fld {aa : Addr} {cls : Value} {d : Option Addr} {i k : Nat} (hz : Zc cls d oe) (hf : ∃ vs, oe.data = .fields vs) (V : ExV X.K B.cl k) (hno : ∀ D, B.cl k = some (.ref D) → PySem.W.findIn X.K (.ref D) n = some none) (hN : X.N[i]? = some x) (hv : Vis X.env.scope x) (hd : (x == ("__debug__" : Str)) = false) (hcd : (x == ("__classdict__" : Str)) = false)
    (hb : attributeBase (.Name x p) n X.env (eval (.Name x p) X.env) = eval (.Name x p) X.env) : SXE (X.suite aa ((aa, oe) :: pn)) B ⟨aa, cls, d, i, k⟩ (.Attribute (.Name x p) n pos) (xFld n) := by
  refine ⟨fun pins s σ H Q I ⟨m, h, ρ, ex, ss, ⟨e1, e2, e3⟩, o⟩ => ?_⟩
  obtain ⟨hcl, rest⟩ := e3
  rw [e2] at hcl
  obtain ⟨D, hD, C⟩ := V.c _ hcl
  have hno' := hno D (by rw [hcl, hD])
  simp only [xFld] at o
  split at o
  · rename_i w hw
    rcases rest with ⟨z, _⟩ | ⟨dx, kus, hdx, hx, k1, k2⟩
    · rw [z] at hw; cases hw
    · obtain ⟨v, hv1, rv⟩ := lookup_fs k1 k2 hw
      have T : XfC X.K D := ⟨C.hg, C.hk, C.hs, C.hd⟩
      have pe := pe_xf (pos := pos) (n := n) T hno' hz hf (pe_var (X := X.suite aa ((aa, oe) :: pn)) (pos := p) hN hv hd hcd) hb
      exact pe.run pins s σ H Q I ⟨.ref aa, e1, rfl, hD, dx, kus, v, hdx, hx, hv1, o m H v ss.rh Mv.refl rv⟩
  · exact o.elim
def xN : FXA := fun _ _ h => .ok [] h
def xC (f : FX) (fs : FXA) : FXA := fun x ρ h => (f x ρ h).bind fun w h1 => (fs x ρ h1).bind fun ws h2 => .ok (w :: ws) h2
theorem sx_nil : SXA X B R [] xN := pa_imp pa_nil fun σ H Q ⟨m, h, ρ, x, s, _, o⟩ => o m H [] s.rh Mv.refl .nil
theorem sx_cons (ha : SXE X B R e f) (hr : SXA X B R es fs) (hs : starEach (e :: es) X.env = (false, eval e X.env) :: starEach es X.env) : SXA X B R (e :: es) (xC f fs) :=
  pa_imp (pa_cons ha hr hs) fun σ H Q ⟨m, h, ρ, x, s, hx, o⟩ => ⟨m, h, ρ, x, s, hx, (Out.bind s.rh o).mono fun v H1 ⟨w, m1, h1, r1, v1, q1, o1⟩ =>
    ⟨m1, h1, ρ, x, s.mv r1 v1, hx.mv s.rh v1, (Out.bind r1 o1).mono fun vs H2 ⟨ws, m2, h2, r2, v2, q2, o2⟩ => o2 m2 H2 _ r2 Mv.refl (.cons (q1.mono v2.old v2.le (v2.tupk r1)) q2)⟩⟩
def xLst (fs : FXA) : FX := fun x ρ h => (fs x ρ h).bind fun ws h1 => bif line ws.length then h1.al (.lst ws) else .no
theorem sx_lst (h : SXA X B R es fs) : SXE X B R (.List es pos) (xLst fs) :=
  pe_imp (pe_lst h) fun σ H Q ⟨m, h, ρ, x, s, hx, o⟩ => ⟨m, h, ρ, x, s, hx, (Out.bind s.rh o).mono fun vs H1 ⟨ws, m1, h1, r1, v1, q1, o1⟩ => by
    cases c : line ws.length with
    | false => rw [c] at o1; exact o1.elim
    | true => rw [c] at o1; exact ⟨by rw [← q1.len]; exact line_le c, al_ok r1 o1 (.lst q1)⟩⟩
def xRt (f : FX) : FXS := fun x ρ h => bindS (f x ρ h) ρ fun w h1 => .rt w h1
theorem OutS.bindN {α β : Type} {B : Bx} {Rr : (Nat → Addr) → Nat → Hp → α → β → Prop} {m : Nat → Addr} {h : Hpe} {H : Hp} {D : Ends} {ρ : Rho} {σ : L2.St} {r : Res α} {k : α → Hpe → RS} (s : SS B.G B.cf m h ρ σ H) (o : OutS B.nox m h H D (bindS r ρ k)) :
    Out B.G B.cl Rr (fun _ _ _ => False) m h H r fun v H1 => ∃ a m1 h1, RH B.G m1 h1 H1 ∧ Mv m h.nx H m1 h1.nx H1 ∧ Rr m1 h1.nx H1 a v ∧ OutS B.nox m1 h1 H1 D (k a h1) := OutS.bind (B := B.nox) s o
theorem sx_ret (he : SXE X B R e f) : SXs X B R [.Return (some e) pos] (xRt f) :=
  pss_imp (pss_one (ps_ret he)) fun D σ H ⟨m, h, ρ, x, s, hx, o⟩ => ⟨m, h, ρ, x, s, hx, (OutS.bindN s o).mono fun v H1 ⟨w, m1, h1, r1, v1, q1, o1⟩ => o1 m1 H1 v r1 Mv.refl q1⟩
end
def RS.unset (i : Nat) : RS → RS
  | .nx ρ h => .nx (ρ.set i none) h
  | .bk ρ h => .bk (ρ.set i none) h
  | .ct ρ h => .ct (ρ.set i none) h
  | .rt w h => .rt w h
  | _ => .no
theorem SS.unset {G : GC} {cf : CF} {m : Nat → Addr} {h : Hpe} {ρ : Rho} {σ : L2.St} {H : Hp} (s : SS G cf m h ρ σ H) (i : Nat) (v : Option V) : SS G cf m h (ρ.set i none) (σ.set i v) H :=
  ⟨s.rh, by rw [List.length_set, List.length_set]; exact s.len, fun k u e => by
    rw [List.getElem?_set] at e
    by_cases c : i = k
    · rw [if_pos c] at e; split at e <;> cases e
    · rw [if_neg c] at e
      obtain ⟨v', e', r'⟩ := s.sl k u e
      exact ⟨v', by rw [List.getElem?_set, if_neg c]; exact e', r'⟩⟩
theorem OutS.unset {B : Bx} {m : Nat → Addr} {h : Hpe} {H : Hp} {D : Ends} {r : RS} {i : Nat} (o : OutS B m h H D (r.unset i)) : OutS B.nox m h H (endsAs i D) r := by
  cases r with
  | nx ρ' h' => exact fun m' H' σ' a b => o m' H' _ (a.unset i none) b
  | bk ρ' h' => exact fun m' H' σ' a b => o m' H' _ (a.unset i none) b
  | ct ρ' h' => exact fun m' H' σ' a b => o m' H' _ (a.unset i none) b
  | rt w h' => exact o
  | ex x ρ' h' => exact o.elim
  | no => exact o
def hdlM : List (Nat × Option Nat × FXS) → EV.Exc → FS
  | [], x, ρ, h => .ex x ρ h
  | (k, none, f) :: r, x, ρ, h => bif Nat.beq x.cls k then (f x ρ h).noX else hdlM r x ρ h
  | (k, some i, f) :: r, x, ρ, h => bif Nat.beq x.cls k then (bif Nat.blt i ρ.length then (f x (ρ.set i none) h).unset i else .no) else hdlM r x ρ h
def sTryM (fb : FS) (hs : List (Nat × Option Nat × FXS)) : FS := fun ρ h => match fb ρ h with
  | .ex x ρ' h' => hdlM hs x ρ' h'
  | r => r
inductive HM (X : Cx) (B : Bx) : List ExceptHandler → List (Nat × Option Nat × FXS) → Prop
  | nil : HM X B [] []
  | cons {x : Str} {k : Nat} {f : FS} {b₀ : Stmt} {suite : List Stmt} {np pos' : Pos} {hds : List ExceptHandler} {l : List (Nat × Option Nat × FXS)} (hg : Gl X x) (hdb : (x == ("__debug__" : Str)) = false) (C : ExN X.K X.mg B.cl x k)
      (hsu : ∀ (a : Addr) (oe : Obj) (pn : List (Addr × Obj)), SSs (X.suite a ((a, oe) :: pn)) B.nox (b₀ :: suite) f) (r : HM X B hds l) : HM X B (.ExceptHandler (some (.Name x np)) none (b₀ :: suite) pos' :: hds) ((k, none, fun _ => f) :: l)
  | consAs {x n : Str} {k i : Nat} {f : FXS} {b₀ : Stmt} {suite : List Stmt} {np pos' : Pos} {hds : List ExceptHandler} {l : List (Nat × Option Nat × FXS)} (hg : Gl X x) (hdb : (x == ("__debug__" : Str)) = false) (C : ExN X.K X.mg B.cl x k) (hi : X.N[i]? = some n) (hln : X.env.kindOf n = some .local)
      (hsu : ∀ (a : Addr) (oe : Obj) (cls : Value) (d : Option Addr) (pn : List (Addr × Obj)), Zc cls d oe → (∃ vs, oe.data = .fields vs) → SXs (X.suite a ((a, oe) :: pn)) B ⟨a, cls, d, i, k⟩ (b₀ :: suite) f) (r : HM X B hds l) :
      HM X B (.ExceptHandler (some (.Name x np)) (some n) (b₀ :: suite) pos' :: hds) ((k, some i, f) :: l)
section
variable {X : Cx} {B : Bx} {fb : FS} {pos : Pos}
theorem HM.ok {hds : List ExceptHandler} {l : List (Nat × Option Nat × FXS)} (hh : HM X B hds l) : ∃ ls, HdsM X hds ls ∧ ∀ (D : Ends) (x : EV.Exc) (m : Nat → Addr) (h : Hpe) (ρ : Rho) (σ : L2.St) (H : Hp) (c : Value) (d : Option Addr), SS B.G B.cf m h ρ σ H → ExR B.G B.cl m h.nx H x c d → OutS B m h H D (hdlM l x ρ h) → wMix X.K B.W D ls c d σ H := by
  induction hh with
  | nil => exact ⟨[], .nil, fun D x m h ρ σ H c d s r o => o m H σ c d s Mv.refl r⟩
  | @cons x k f b₀ suite np pos' hds l hg hdb C hsu r ih =>
    obtain ⟨ls, h1, h2⟩ := ih
    obtain ⟨cv, hm, hk⟩ := C.ex
    refine ⟨(cv, none, fun _ _ _ => tS B.nox f) :: ls, .cons ⟨hg, hdb, .inl hm⟩ (.inl ⟨rfl, rfl⟩) (fun a oe cls d pn _ _ => hsu a oe pn) h1, fun D x m h ρ σ H c d s rx o => ?_⟩
    refine ⟨_, C.mt x.cls c cv rx.1 hk, fun hb a _ => ⟨m, h, ρ, s, ?_⟩, fun hb => h2 D x m h ρ σ H c d s rx ?_⟩
    · simp only [hdlM, hb, cond_true] at o; exact o.noX
    · simp only [hdlM, hb, cond_false] at o; exact o
  | @consAs x n k i f b₀ suite np pos' hds l hg hdb C hi hln hsu r ih =>
    obtain ⟨ls, h1, h2⟩ := ih
    obtain ⟨cv, hm, hk⟩ := C.ex
    refine ⟨(cv, some i, fun a cls d => tXS B ⟨a, cls, d, i, k⟩ f) :: ls, .cons ⟨hg, hdb, .inl hm⟩ (.inr ⟨n, i, rfl, rfl, hi, hln⟩) (fun a oe cls d pn hz hf => hsu a oe cls d pn hz hf) h1, fun D x m h ρ σ H c d s rx o => ?_⟩
    refine ⟨_, C.mt x.cls c cv rx.1 hk, fun hb a _ => ?_, fun hb => h2 D x m h ρ σ H c d s rx ?_⟩
    · simp only [hdlM, hb, cond_true] at o
      cases ci : Nat.blt i ρ.length with
      | false => rw [ci] at o; exact o.elim
      | true =>
        rw [ci] at o
        have hil : i < σ.length := by rw [← s.len]; exact Nat.le_of_ble_eq_true ci
        exact ⟨m, h, ρ.set i none, x, s.unset i _, ⟨by rw [List.getElem?_set_self hil], beq_eq hb, rx⟩, o.unset⟩
    · simp only [hdlM, hb, cond_false] at o; exact o
theorem ss_tryM {body : List Stmt} {h₀ : ExceptHandler} {hds : List ExceptHandler} {l : List (Nat × Option Nat × FXS)} (hN : X.N.Nodup) (hs : X.stack = X.env :: X.outer) (hf : X.env.frame = some X.env.locals) (tk : Takes X B.W)
    (hb : ∀ (W : WX) (pn : List (Addr × Obj)) (xe : Value → Shared → Prop), Takes (X.tr pn xe) W → PassesOwn (model X.prog X.w) X.A X.env xe → SSs (X.tr pn xe) ⟨B.G, B.cl, W, B.cf⟩ body fb) (hh : HM X B (h₀ :: hds) l) : SSt X B (.Try body (h₀ :: hds) [] [] pos) (sTryM fb l) := by
  obtain ⟨ls, h1, h2⟩ := hh.ok
  refine ps_imp (ps_try_mix (tb := fun W => tS ⟨B.G, B.cl, W, B.cf⟩ fb) hN hs hf tk hb h1) fun D σ H ⟨m, h, ρ, s, o⟩ => ⟨m, h, ρ, s, ?_⟩
  simp only [sTryM] at o
  cases q : fb ρ h with
  | nx ρ' h' => simp only [q] at o; exact o
  | rt w h' => simp only [q] at o; exact o
  | bk ρ' h' => simp only [q] at o; exact o
  | ct ρ' h' => simp only [q] at o; exact o
  | no => simp only [q] at o; exact o
  | ex x ρ' h' =>
    simp only [q] at o
    exact fun m' H' σ' c d s' v' rx => h2 D x m' h' ρ' σ' H' c d s' rx (OutS.shift s.rh s'.rh v' o)
end
end EV
set_option maxHeartbeats 2000000
namespace EV
open PySem PySem.Spec PyProof.Rows L2
section
variable {X : Cx}
end
section
variable {X : Cx} {B : Bx} {a b c e : Expr} {fa fb f : FE} {fs : FA} {pos p : Pos} {x : Str}
section
variable (hK : X.K = B.G.K) (ha : SA X B [e] fs) (h3 : starEach [e] X.env = (false, eval e X.env) :: starEach [] X.env) (h4 : (backTo pos (starEach [] X.env)).any (·.1) = false)
include hK ha h3 h4
end
end
end EV
set_option maxHeartbeats 4000000
namespace EV
open PySem PySem.Spec PyProof.Rows L2
theorem mapO_nk {G : GC} {m : Nat → Addr} {n : Nat} {H : Hp} {f : W → Option NestedKey} (hf : ∀ w v k, RW G m n H w v → f w = some k → Nk G.K H k v) : ∀ {ws : List W} {vs : List V} {ks : List NestedKey}, RWs G m n H ws vs → mapO f ws = some ks →
    ks.length = vs.length ∧ ∀ (j : Nat) (k : NestedKey) (x : V), ks[j]? = some k → vs[j]? = some x → Nk G.K H k x
  | _, _, _, .nil, e => by cases e; exact ⟨rfl, fun j k x h => by simp at h⟩
  | w :: ws, v :: vs, ks, .cons a b, e => by
    simp only [mapO] at e
    split at e
    · cases e
    · rename_i y ey
      split at e
      · cases e
      · rename_i ys eys
        cases e
        obtain ⟨h1, h2⟩ := mapO_nk hf b eys
        refine ⟨by simp [h1], fun j k x hk hx => ?_⟩
        cases j with
        | zero => simp at hk hx; subst hk hx; exact hf w v y a ey
        | succ j => exact h2 j k x (by simpa using hk) (by simpa using hx)
theorem nkW_ok {G : GC} {m : Nat → Addr} {n : Nat} {H : Hp} : ∀ (f : Nat) (w : W) (v : V) (k : NestedKey), RW G m n H w v → nkW f w = some k → Nk G.K H k v
  | 0, _, _, _, _, e => by cases e
  | f + 1, w, v, k, r, e => by
    cases w with
    | non => cases e; obtain rfl := rw_non r; exact .non
    | bl b => cases e; obtain rfl := asB_ok r; exact .bl b
    | int i => cases e; obtain rfl := rw_int r; exact .int i
    | str x => cases e; obtain rfl := rw_str r; exact .str x
    | ref _ => cases e
    | df _ => cases e
    | clo _ _ => cases e
    | tup ws =>
      simp only [nkW] at e
      split at e
      · cases e
      · rename_i ks q
        cases e
        obtain ⟨a, xs, rfl, s, rs⟩ := rw_tup r
        obtain ⟨h1, h2⟩ := mapO_nk (fun w v k => nkW_ok f w v k) rs q
        exact .tup s h1 h2
def atW (kvs : List (W × W)) (k : NestedKey) : Option W := match kvs with
  | [] => none
  | p :: r => bif decide (nkW 9 p.1 = some k) then some p.2 else atW r k
def setW (k : NestedKey) (w : W) : List (W × W) → List (W × W)
  | [] => []
  | p :: r => (bif decide (nkW 9 p.1 = some k) then (p.1, w) else p) :: setW k w r
def putW (kvs : List (W × W)) (key : W) (k : NestedKey) (w : W) : List (W × W) := match atW kvs k with
  | some _ => setW k w kvs
  | none => kvs ++ [(key, w)]
section
variable {G : GC} {m : Nat → Addr} {n : Nat} {H : Hp}
def DnR (G : GC) (m : Nat → Addr) (n : Nat) (H : Hp) (kvs : List (W × W)) (xs : Dn) : Prop :=
  kvs.map (fun p => nkW 9 p.1) = xs.map (fun x => some x.1) ∧ (∀ x ∈ xs, x.1.depth ≤ 8) ∧ RWs G m n H (kvs.map (·.1)) (xs.map fun x => V.ref x.2.1) ∧ RWs G m n H (kvs.map (·.2)) (xs.map (·.2.2))
theorem DnR.key {kvs : List (W × W)} {xs : Dn} (r : DnR G m n H kvs xs) : ∀ x ∈ xs, Nk G.K H x.1 (.ref x.2.1) ∧ x.1.depth ≤ 8 := by
  induction kvs generalizing xs with
  | nil => obtain ⟨h1, _⟩ := r; cases xs with
    | nil => intro x hx; cases hx
    | cons _ _ => simp at h1
  | cons p kvs ih =>
    obtain ⟨h1, h2, h3, h4⟩ := r
    cases xs with
    | nil => intro x hx; cases hx
    | cons y xs =>
      simp only [List.map_cons, List.cons.injEq] at h1 h3 h4
      cases h3 with
      | cons a3 b3 => cases h4 with
        | cons a4 b4 =>
          intro x hx
          rcases List.mem_cons.mp hx with rfl | hx
          · exact ⟨nkW_ok 9 _ _ _ a3 h1.1, h2 _ (List.mem_cons_self ..)⟩
          · exact ih ⟨h1.2, fun z hz => h2 z (List.mem_cons_of_mem _ hz), b3, b4⟩ x hx
theorem DnR.at {kvs : List (W × W)} {xs : Dn} (r : DnR G m n H kvs xs) (k : NestedKey) : (atW kvs k = none ∧ atV xs k = none) ∨ ∃ w p, atW kvs k = some w ∧ atV xs k = some p ∧ RW G m n H w p.2 := by
  induction kvs generalizing xs with
  | nil => obtain ⟨h1, _⟩ := r; cases xs with
    | nil => exact .inl ⟨rfl, rfl⟩
    | cons _ _ => simp at h1
  | cons p kvs ih =>
    obtain ⟨h1, h2, h3, h4⟩ := r
    cases xs with
    | nil => simp at h1
    | cons y xs =>
      simp only [List.map_cons, List.cons.injEq] at h1 h3 h4
      cases h3 with
      | cons a3 b3 => cases h4 with
        | cons a4 b4 =>
          have ih' := ih ⟨h1.2, fun z hz => h2 z (List.mem_cons_of_mem _ hz), b3, b4⟩
          unfold atW
          unfold atV at ih' ⊢
          rw [List.find?_cons, h1.1]
          by_cases c : y.1 = k
          · rw [decide_eq_true (show some y.1 = some k by rw [c]), decide_eq_true c]
            exact .inr ⟨p.2, y.2, rfl, rfl, a4⟩
          · rw [decide_eq_false (show ¬ some y.1 = some k by simpa using c), decide_eq_false c]
            exact ih'
theorem DnR.sets {kvs : List (W × W)} {xs : Dn} {k : NestedKey} {w : W} {v : V} (rv : RW G m n H w v) (r : DnR G m n H kvs xs) : DnR G m n H (setW k w kvs) (xs.map fun x => if x.1 = k then (x.1, x.2.1, v) else x) := by
  induction kvs generalizing xs with
  | nil => obtain ⟨h1, _⟩ := r; cases xs with
    | nil => exact ⟨rfl, fun _ z => (nomatch z), .nil, .nil⟩
    | cons _ _ => simp at h1
  | cons p kvs ih =>
    obtain ⟨h1, h2, h3, h4⟩ := r
    cases xs with
    | nil => simp at h1
    | cons y xs =>
      simp only [List.map_cons, List.cons.injEq] at h1 h3 h4
      cases h3 with
      | cons a3 b3 => cases h4 with
        | cons a4 b4 =>
          obtain ⟨i1, i2, i3, i4⟩ := ih ⟨h1.2, fun z hz => h2 z (List.mem_cons_of_mem _ hz), b3, b4⟩
          unfold setW
          by_cases c : y.1 = k
          · rw [h1.1, decide_eq_true (show some y.1 = some k by rw [c]), cond_true, List.map_cons, if_pos c]
            refine ⟨by simp only [List.map_cons]; rw [h1.1, i1], fun z hz => ?_, .cons a3 i3, .cons rv i4⟩
            rcases List.mem_cons.mp hz with rfl | hz
            · exact h2 y (List.mem_cons_self ..)
            · exact i2 z hz
          · rw [h1.1, decide_eq_false (show ¬ some y.1 = some k by simpa using c), cond_false, List.map_cons, if_neg c]
            refine ⟨by simp only [List.map_cons]; rw [h1.1, i1], fun z hz => ?_, .cons a3 i3, .cons a4 i4⟩
            rcases List.mem_cons.mp hz with rfl | hz
            · exact h2 _ (List.mem_cons_self ..)
            · exact i2 z hz
theorem DnR.put {kvs : List (W × W)} {xs : Dn} {key w : W} {b : Addr} {k : NestedKey} {v : V} (r : DnR G m n H kvs xs) (rk : RW G m n H key (.ref b)) (ek : nkW 9 key = some k) (hd : k.depth ≤ 8) (rv : RW G m n H w v) : DnR G m n H (putW kvs key k w) (putV xs k b v) := by
  unfold putW putV
  rcases r.at k with ⟨e1, e2⟩ | ⟨w', p, e1, e2, _⟩
  · rw [e1, e2]
    obtain ⟨h1, h2, h3, h4⟩ := r
    show DnR G m n H (kvs ++ [(key, w)]) (xs ++ [(k, b, v)])
    refine ⟨by simp [h1, ek], fun x hx => ?_, by simpa using h3.app (.cons rk .nil), by simpa using h4.app (.cons rv .nil)⟩
    rcases List.mem_append.mp hx with hx | hx
    · exact h2 x hx
    · rw [List.mem_singleton.mp hx]; exact hd
  · rw [e1, e2]; exact r.sets rv
end
def rdN (h : Hpe) (n : Nat) : Option (List (W × W)) := match h.get n with
  | some (.dn kvs) => some kvs
  | some (.dk []) => some []
  | _ => none
theorem RH.dn {G : GC} {m : Nat → Addr} {h : Hpe} {H : Hp} (r : RH G m h H) {i : Nat} {kvs : List (W × W)} (hi : i < h.nx) (e : rdN h i = some kvs) : ∃ xs, DnR G m h.nx H kvs xs ∧ DnAt G.prog G.wo G.K H (m i) xs := by
  obtain ⟨o, ho, q1, q2, q3⟩ := r.obj i hi
  unfold rdN at e
  rw [q1] at e
  cases q3 with
  | lst _ => cases e
  | fz _ => cases e
  | @dk kvs' kus a b =>
    cases kvs' with
    | nil =>
      cases e
      cases kus with
      | nil => exact ⟨[], ⟨rfl, fun _ z => (nomatch z), .nil, .nil⟩, .inr ⟨rfl, q2⟩, fun _ z => (nomatch z)⟩
      | cons _ _ => simp at a
    | cons _ _ => cases e
  | @dn _ xs a b c d =>
    cases e
    have R : DnR G m h.nx H kvs xs := ⟨a, b, c, d⟩
    exact ⟨xs, R, .inl q2, R.key⟩
  | st _ _ _ => cases e
  | si _ => cases e
  | ob _ _ _ => cases e
  | fd _ _ => cases e
  | fn _ _ _ _ => cases e
  | pt _ _ => cases e
  | er0 _ => cases e
  | er1 _ _ => cases e
  | xo => cases e
end EV
namespace EV
open PySem PySem.Spec PyProof.Rows L2
structure Hm (X : Cx) (G : GC) : Prop where
  p : X.prog = G.prog
  w : X.w = G.wo
section
variable {X : Cx} {G : GC}
def rdK (h : Hpe) (n : Nat) : Option (List (Key × W)) := match h.get n with
  | some (.dk kvs) => some kvs
  | _ => none
theorem RH.dk {m : Nat → Addr} {h : Hpe} {H : Hp} (r : RH G m h H) {i : Nat} {kvs : List (Key × W)} (hi : i < h.nx) (e : rdK h i = some kvs) : ∃ kus, H (m i) = some (.dK kus) ∧ kvs.map (·.1) = kus.map (·.1) ∧ RWs G m h.nx H (kvs.map (·.2)) (kus.map (·.2)) := by
  obtain ⟨o, ho, q1, q2, q3⟩ := r.obj i hi
  unfold rdK at e
  rw [q1] at e
  cases q3 with
  | lst _ => cases e
  | fz _ => cases e
  | dk a b => cases e; exact ⟨_, q2, a, b⟩
  | dn _ _ _ _ => cases e
  | st _ _ _ => cases e
  | si _ => cases e
  | ob _ _ _ => cases e
  | fd _ _ => cases e
  | fn _ _ _ _ => cases e
  | pt _ _ => cases e
  | er0 _ => cases e
  | er1 _ _ => cases e
  | xo => cases e
end
end EV
namespace EV
open PySem PySem.Spec PyProof.Rows L2
section
variable {G : GC} {m : Nat → Addr} {n : Nat} {H : Hp}
end
section
variable {X : Cx} {B : Bx} {a b c e o i : Expr} {fa fb f fo fi : FE} {fs : FA} {pos p : Pos} {x : Str}
end
end EV
namespace EV
open PySem PySem.Spec PyProof.Rows L2
structure Lcs (G : GC) (m1 : Nat → Addr) (n1 : Nat) (H1 : Hp) (D : Addr) (m : Nat → Addr) (h : Hpe) (acc : List W) (ys : List V) (H : Hp) : Prop where
  rh : RH G m h H
  mv : Mv m1 n1 H1 m h.nx H
  rw : RWs G m h.nx H acc.reverse ys
  at_ : H D = some (.lst ys)
  no : ∀ j, j < h.nx → m j ≠ D
section
variable {G : GC} {m1 m m' : Nat → Addr} {n1 : Nat} {H1 H H' : Hp} {D : Addr} {h h' : Hpe} {acc : List W} {ys : List V}
theorem Lcs.go (L : Lcs G m1 n1 H1 D m h acc ys H) (lt : ∀ i, i < n1 → H (m1 i) ≠ none) (r : RH G m' h' H') (v : Mv m h.nx H m' h'.nx H') : Lcs G m1 n1 H1 D m' h' acc ys H' :=
  ⟨r, L.mv.trans lt v, L.rw.mono v.old v.le (v.tupk L.rh), v.stay L.at_ L.no (fun _ z => by cases z), fun j hj z => by
    by_cases cj : j < h.nx
    · rw [v.old j cj] at z; exact L.no j cj z
    · have := v.new j (by omega) hj
      rw [z, L.at_] at this; cases this⟩
theorem Lcs.lt (L : Lcs G m1 n1 H1 D m h acc ys H) : ∀ i, i < n1 → H (m1 i) ≠ none := fun i hi => by
  rw [← L.mv.old i hi]; exact L.rh.ne_none (Nat.lt_of_lt_of_le hi L.mv.le)
theorem Lcs.add (L : Lcs G m1 n1 H1 D m h acc ys H) (hD : H1 D = none) {z : W} {u : V} (q : RW G m h.nx H z u) : Lcs G m1 n1 H1 D m h (z :: acc) (ys ++ [u]) (upd H D (.lst (ys ++ [u]))) := by
  have tk : TupK H (upd H D (.lst (ys ++ [u]))) := fun a xs q => by
    rcases q with q | ⟨ob, q⟩
    · exact .inl (by rw [upd_ne (fun z : a = D => by rw [z, L.at_] at q; cases q)]; exact q)
    · exact .inr ⟨ob, by rw [upd_ne (fun z : a = D => by rw [z, L.at_] at q; cases q)]; exact q⟩
  refine ⟨⟨L.rh.sz, L.rh.inj, fun j hj => ?_, fun P hP => ?_, fun P hP => ?_⟩, ⟨L.mv.le, L.mv.old, L.mv.new, fun b ob e hb => ?_, fun j hj ob u e => by rw [upd_ne (fun z => by rw [z, hD] at e; cases e)]; exact L.mv.kf j hj ob u e⟩, ?_, upd_same, L.no⟩
  · obtain ⟨o', ho', a1, a2, a3⟩ := L.rh.obj j hj
    exact ⟨o', ho', a1, by rw [upd_ne (L.no j hj)]; exact a2, a3.mono (fun _ _ => rfl) (Nat.le_refl _) tk⟩
  · obtain ⟨ps, a1, a2⟩ := L.rh.tab P hP
    exact ⟨ps, by rw [upd_ne (fun z : P = D => by rw [z, L.at_] at a1; cases a1)]; exact a1, a2⟩
  · exact (L.rh.ltab P hP).keep (fun ps e => by rw [upd_ne (fun z : P = D => by rw [z, L.at_] at e; cases e)]; exact e) fun b q e nb => ⟨by rw [upd_ne (fun z : b = D => by rw [z, L.at_] at e; unfold LamX.CodeO at e; cases e)]; exact e, nb⟩
  · have bD : b ≠ D := fun z => by rw [z, hD] at e; cases e
    rw [upd_ne bD]; exact L.mv.kp b ob e hb
  · rw [List.reverse_cons]
    exact (L.rw.mono (fun _ _ => rfl) (Nat.le_refl _) tk).app (.cons (q.mono (fun _ _ => rfl) (Nat.le_refl _) tk) .nil)
end
structure Wk (m : Nat → Addr) (n : Nat) (H : Hp) (m' : Nat → Addr) (n' : Nat) (H' : Hp) : Prop where
  old : ∀ i, i < n → m' i = m i
  le : n ≤ n'
  tk : TupK H H'
  kf : ∀ i, i < n → ∀ ob u, H (m i) = some (.frz ob u) → H' (m i) = some (.frz ob u)
theorem Wk.refl {m : Nat → Addr} {n : Nat} {H : Hp} : Wk m n H m n H := ⟨fun _ _ => rfl, Nat.le_refl _, .refl, fun _ _ _ _ e => e⟩
theorem Wk.go {m m1 m2 : Nat → Addr} {n n1 n2 : Nat} {H H1 H2 : Hp} (a : Wk m n H m1 n1 H1) (b : Wk m1 n1 H1 m2 n2 H2) : Wk m n H m2 n2 H2 :=
  ⟨fun i hi => (b.old i (Nat.lt_of_lt_of_le hi a.le)).trans (a.old i hi), Nat.le_trans a.le b.le, TupK.trans a.tk b.tk, fun i hi ob u e => by
    have z := b.kf i (Nat.lt_of_lt_of_le hi a.le) ob u (by rw [a.old i hi]; exact a.kf i hi ob u e)
    rwa [a.old i hi] at z⟩
section
variable {X : Cx} {B : Bx} {tg tg1 elt iter iter1 : Expr} {ifs ifs1 : List Expr} {fe : FE} {ft ft1 : FT} {fi fi1 : FI} {g g1 : FG} {us us1 vs vs1 : List Nat} {pos : Pos}
end
end EV
namespace EV
open PySem PySem.Spec PyProof.Rows L2
def byN {α : Type} (π : List Nat) (us ws : List α) : List α := us ++ π.filterMap (fun i => ws[i]?)
structure DfK (P : Program) (w : World) (K : PySem.W.Frag) (mg : Str → Option Value) (base : Heap) (G : GC) (cl : Cls) (x : Str) (ps : List Str) (n : Nat) (ks : List Str) (π : List Nat) (k : Nat) (g : List W → Hpe → Res W) : Prop where
  ex : ∃ f fd, FnOk P w K mg base (L2.CX P w) k f fd ps (spE G cl ps.length g) ∧ mg x = some (.ref f) ∧ PySem.W.keepIn K (.ref f) = true ∧ KBn K fd ps n ks (byN π) (byN π)
def SK (X : Cx) (B : Bx) (kws : List Keyword) (f : FA) : Prop := PK X kws (tA B.G B.cf B.cl B.W f)
theorem pk_imp {X : Cx} {e : List Keyword} {t t' : TA} (h : PK X e t) (i : ∀ σ H Q, t' σ H Q → t σ H Q) : PK X e t' := ⟨fun pos pins s σ H Q I q => h.run pos pins s σ H Q I (i σ H Q q)⟩
section
variable {X : Cx} {B : Bx} {e : Expr} {es : List Expr} {kws : List Keyword} {f : FE} {fs fk : FA} {p pos kpos : Pos} {x : Str} {nm : Option Str}
theorem sk_nil : SK X B [] aN := pk_imp pk_nil fun σ H Q ⟨m, h, ρ, s, o⟩ => o m H [] s.rh Mv.refl .nil
theorem sk_cons (ha : SE X B e f) (hr : SK X B kws fs) : SK X B (⟨nm, e, kpos⟩ :: kws) (aC f fs) :=
  pk_imp (pk_cons ha hr) fun σ H Q ⟨m, h, ρ, s, o⟩ => ⟨m, h, ρ, s, (Out.bind s.rh o).mono fun v H1 ⟨w, m1, h1, r1, v1, q1, o1⟩ =>
    ⟨m1, h1, ρ, s.mv r1 v1, (Out.bind r1 o1).mono fun vs H2 ⟨ws, m2, h2, r2, v2, q2, o2⟩ => o2 m2 H2 _ r2 Mv.refl (.cons (q1.mono v2.old v2.le (v2.tupk r1)) q2)⟩⟩
end
end EV
namespace EV
open PySem PySem.Spec PyProof.Rows L2
abbrev Prs := List (FE × FE)
section
variable {B : Bx}
end
section
variable {X : Cx} {B : Bx} {pos : Pos} {keys : List (Option Expr)} {values : List Expr} {ps : Prs}
end
def relS (sc scope : Scope) : Scope := relabel sc (envOfC "" scope 0 0 .none)
theorem rel_eq {sc scope : Scope} {n : Str} {L a : Addr} {cd : Value} : relabel sc (envOfC n scope L a cd) = relS sc scope := rfl
theorem rel_eq2 {sc sc' : Scope} {cl : List (Str × Addr)} {C : Addr} {env : Env} : relabel sc (compEnvC sc' cl C env) = relS sc (relabel sc' env) := rfl
end EV
namespace EV
open PySem PySem.Spec PyProof.Rows L2
section
variable {X : Cx} {B : Bx} {e : Expr} {es : List Expr} {kws : List Keyword} {fs fk : FA} {p pos : Pos} {x : Str}
end
end EV
namespace EV
open PySem PySem.Spec PyProof.Rows L2
section
variable {X : Cx} {B : Bx} {tg iter kx vx : Expr} {ifs : List Expr} {fi : FI} {g : FG} {ft : FT} {fk fv : FE} {us vs : List Nat} {pos : Pos}
end
end EV
namespace EV
open PySem PySem.Spec PyProof.Rows L2
section
variable {X : Cx} {B : Bx} {e o : Expr} {es : List Expr} {fo : FE} {fs : FA} {apos cpos : Pos}
end
end EV
namespace EV
open PySem PySem.Spec PyProof.Rows L2
section
variable {X : Cx} {B : Bx} {a b : Expr} {fa fb : FE} {pos : Pos}
end
end EV
namespace EV
open PySem PySem.Spec PyProof.Rows L2
end EV
namespace EV
open PySem PySem.Spec PyProof.Rows L2
section
variable {G : GC} {m : Nat → Addr} {n : Nat} {H : Hp} {h : Hpe}
def MemR (G : GC) (m : Nat → Addr) (n : Nat) (H : Hp) (ws : List W) (l : Mem) : Prop := ws.map (nkW 9) = l.map (fun x => some x.1) ∧ (∀ x ∈ l, x.1.depth ≤ 8) ∧ RWs G m n H ws (l.map fun x => V.ref x.2)
theorem MemR.key {ws : List W} {l : Mem} (r : MemR G m n H ws l) : MemK G.K H l := by
  induction l generalizing ws with
  | nil => intro p hp; cases hp
  | cons p l ih =>
    obtain ⟨h1, h2, h3⟩ := r
    cases ws with
    | nil => cases h3
    | cons w ws =>
      simp only [List.map_cons, List.cons.injEq] at h1 h3
      cases h3 with
      | cons a b =>
        intro q hq
        rcases List.mem_cons.mp hq with rfl | hq
        · exact ⟨nkW_ok 9 _ _ _ a h1.1, h2 _ (List.mem_cons_self ..)⟩
        · exact ih ⟨h1.2, fun x hx => h2 x (List.mem_cons_of_mem _ hx), b⟩ q hq
theorem MemR.len {ws : List W} {l : Mem} (r : MemR G m n H ws l) : ws.length = l.length := by simpa using congrArg List.length r.1
def hasT (k : NestedKey) : List W → Bool
  | [] => false
  | w :: ws => bif decide (nkW 9 w = some k) then true else hasT k ws
theorem hasT_ok (k : NestedKey) : ∀ {ws : List W} {l : Mem}, ws.map (nkW 9) = l.map (fun x => some x.1) → hasT k ws = decide (k ∈ l.map (·.1))
  | [], [], _ => rfl
  | [], _ :: _, e => by simp at e
  | _ :: _, [], e => by simp at e
  | w :: ws, p :: l, e => by
    simp only [List.map_cons, List.cons.injEq] at e
    unfold hasT
    rw [e.1, hasT_ok k e.2]
    by_cases c : p.1 = k
    · subst c
      simp
    · have c' : ¬ k = p.1 := fun z => c z.symm
      simp [c, c']
def putT (ws : List W) (y : W) (k : NestedKey) : List W := bif hasT k ws then ws else ws ++ [y]
theorem MemR.put {ws : List W} {l : Mem} (r : MemR G m n H ws l) {y : W} {k : NestedKey} {b : Addr} (ry : RW G m n H y (.ref b)) (e : nkW 9 y = some k) (d : k.depth ≤ 8) : MemR G m n H (putT ws y k) (putM l k b) := by
  unfold putT putM
  rw [hasT_ok k r.1]
  by_cases c : k ∈ l.map (·.1)
  · rw [decide_eq_true c, if_pos c]; exact r
  · rw [decide_eq_false c, if_neg c]
    obtain ⟨h1, h2, h3⟩ := r
    refine ⟨by simp [h1, e], fun x hx => ?_, by simpa using h3.app (.cons ry .nil)⟩
    rcases List.mem_append.mp hx with hx | hx
    · exact h2 x hx
    · rw [List.mem_singleton.mp hx]; exact d
theorem RH.st (r : RH G m h H) {i : Nat} {ws : List W} (hi : i < h.nx) (e : h.get i = some (.st ws)) : ∃ l, MemR G m h.nx H ws l ∧ H (m i) = some (snO G.wo (m i) l) := by
  obtain ⟨o, ho, q1, q2, q3⟩ := r.obj i hi
  rw [e] at q1; cases q1
  cases q3 with
  | st a b c => exact ⟨_, ⟨a, b, c⟩, q2⟩
theorem RH.si (r : RH G m h H) {i : Nat} {is : List Int} (hi : i < h.nx) (e : h.get i = some (.si is)) : is.Nodup ∧ H (m i) = some (SetO G.wo (m i) (fun k => is.contains k) is.length) := by
  obtain ⟨o, ho, q1, q2, q3⟩ := r.obj i hi
  rw [e] at q1; cases q1
  cases q3 with
  | si a => exact ⟨a, q2⟩
end
section
variable {X : Cx} {o e : Expr} {es : List Expr} {to : TE} {t : TA} {apos cpos : Pos}
end
section
variable {X : Cx} {B : Bx} {a b c e o : Expr} {es : List Expr} {fa fb f fo : FE} {fs : FA} {pos p apos cpos : Pos} {x : Str}
end
end EV
namespace EV
open PySem PySem.Spec PyProof.Rows L2
section
variable {G : GC} {m : Nat → Addr} {n : Nat} {H : Hp} {h : Hpe}
inductive PrD (G : GC) (m : Nat → Addr) (n : Nat) (H : Hp) : List (W × PyData) → List (V × PyData) → Prop
  | nil : PrD G m n H [] []
  | cons {w : W} {v : V} {d : PyData} {ps : List (W × PyData)} {bs : List (V × PyData)} : RW G m n H w v → PrD G m n H ps bs → PrD G m n H ((w, d) :: ps) ((v, d) :: bs)
theorem PrD.ins : ∀ {ps : List (W × PyData)} {bs : List (V × PyData)} {w : W} {v : V} {d : PyData}, RW G m n H w v → PrD G m n H ps bs → PrD G m n H (ins leD (w, d) ps) (ins leD (v, d) bs)
  | _, _, _, _, _, r, .nil => .cons r .nil
  | _, _, w, v, d, r, .cons (d := d') a b => by
    unfold EV.ins
    have e : ∀ {α β : Type} (x y : α) (x' y' : β), leD (x, d) (y, d') = leD (x', d) (y', d') := fun _ _ _ _ => rfl
    rw [e (β := V) w _ v _]
    cases leD (v, d) (_, d') with
    | true => exact .cons r (.cons a b)
    | false => exact .cons a (b.ins r)
theorem PrD.chain : ∀ {ps : List (W × PyData)} {bs : List (V × PyData)}, PrD G m n H ps bs → chainL ltD ps = chainL ltD bs
  | _, _, .nil => rfl
  | _, _, .cons a .nil => rfl
  | _, _, .cons a (.cons b c) => by
    unfold chainL
    rw [(PrD.cons b c).chain]
    rfl
def bLen3 : List W → Hpe → Res W
  | [.str x], h => bif line x.length then .ok (.int x.length) h else .no
  | [.ref n], h => match h.get n with
    | some (.st ws) => .ok (.int ws.length) h
    | some (.si is) => .ok (.int is.length) h
    | some (.dk kvs) => .ok (.int kvs.length) h
    | some (.dn kvs) => .ok (.int kvs.length) h
    | _ => bLen [.ref n] h
  | ws, h => bLen ws h
def rLenS (w : World) : List V → Hp → VK → Prop := fun xs H Q => ∃ a, xs = [V.ref a] ∧ ((∃ l, H a = some (snO w a l) ∧ Q (.int l.length) H) ∨ ∃ S n, H a = some (SetO w a S n) ∧ Q (.int n) H)
theorem cr_lenS {X : Cx} : CallR X (.builtin "len") (rLenS X.w) := by
  intro pins s σ H xs us Q I r h
  obtain ⟨a, rfl, h⟩ := h
  rw [Vals.ref1 r]
  rcases h with ⟨l, ha, q⟩ | ⟨S, n, ha, q⟩
  · obtain ⟨l', es, ep, t, pm, R⟩ : SnP X.w a l s.heap := (I.hok a _ ha).1
    obtain ⟨o, eo, ex, ed⟩ := R.ob
    have few := R.few
    have sz := R.size
    refine call_len_set eo ex ed R.fits (by omega) ⟨.int l.length, H, I.tok _, ⟨_, by rw [sz, pm.length_eq]⟩, q⟩
  · obtain ⟨o, es, ep, t, eo, ex, ed, _, _, _, c, f, sz, _⟩ := setO_get I ha
    have c' : es.size < 4096 := c
    refine call_len_set eo ex ed f (by omega) ⟨.int n, H, I.tok _, ⟨_, by rw [sz]⟩, q⟩
def rLenN (G : GC) : List V → Hp → VK → Prop := fun xs H Q => ∃ a ys, xs = [V.ref a] ∧ DnAt G.prog G.wo G.K H a ys ∧ Q (.int ys.length) H
theorem cr_lenN {X : Cx} (hK : X.K = G.K) (hm : Hm X G) : CallR X (.builtin "len") (rLenN G) := by
  intro pins s σ H xs us Q I r h
  obtain ⟨a, ys, rfl, D, q⟩ := h
  rw [Vals.ref1 r]
  rw [← hm.p, ← hm.w, ← hK] at D
  obtain ⟨z, hd, zs, rel, dd⟩ := dn_of I D
  have hl : ys.length = zs.length := Paired.length rel
  refine call_len_dictH hd dd (by rw [← hl]; rw [sizeLine_eq] at z; omega) ?_
  rw [← hl]
  exact ⟨.int ((ys.length : Nat) : Int), H, I.tok _, ⟨_, rfl⟩, q⟩
def rLen3 (G : GC) : List V → Hp → VK → Prop := fun xs H Q => (∃ p ys, xs = [V.ref p] ∧ (SqL G.K H p ys ∨ SqT G.K H p ys) ∧ Q (V.int ↑ys.length) H) ∨ (∃ z, xs = [.str z] ∧ z.length ≤ sizeLine ∧ Q (.int z.length) H) ∨ rLenS G.wo xs H Q ∨ (∃ a kvs, xs = [V.ref a] ∧ H a = some (.dK kvs) ∧ Q (.int kvs.length) H) ∨ rLenN G xs H Q
theorem cs_len3 : ClS G (rLen3 G) bLen3 := by
  intro cl Wx m h H ws vs Q rh r o
  unfold bLen3 at o
  split at o
  · obtain ⟨v, rfl, rv⟩ := rws_one r
    obtain rfl := rw_str rv
    rename_i x
    cases c : line x.length with
    | false => rw [c] at o; exact o.elim
    | true => rw [c] at o; exact .inr (.inl ⟨x, rfl, line_le c, o m H _ rh Mv.refl (.int _)⟩)
  · rename_i n
    obtain ⟨v, rfl, rv⟩ := rws_one r
    obtain ⟨rfl, hn⟩ := rw_ref rv
    split at o
    · rename_i ws e
      obtain ⟨l, R, eH⟩ := rh.st hn e
      exact .inr (.inr (.inl ⟨_, rfl, .inl ⟨l, eH, o m H _ rh Mv.refl (by rw [R.len]; exact .int _)⟩⟩))
    · rename_i is e
      obtain ⟨_, eH⟩ := rh.si hn e
      exact .inr (.inr (.inl ⟨_, rfl, .inr ⟨_, _, eH, o m H _ rh Mv.refl (.int _)⟩⟩))
    · rename_i kvs e
      have e1 : rdK h n = some kvs := by unfold rdK; rw [e]
      obtain ⟨kus, eH, h1, h2⟩ := rh.dk hn e1
      have hl : kvs.length = kus.length := by simpa using congrArg List.length h1
      exact .inr (.inr (.inr (.inl ⟨_, kus, rfl, eH, o m H _ rh Mv.refl (by rw [hl]; exact .int _)⟩)))
    · rename_i kvs e
      have e1 : rdN h n = some kvs := by unfold rdN; rw [e]
      obtain ⟨xs, R, D⟩ := rh.dn hn e1
      have hl : kvs.length = xs.length := by simpa using congrArg List.length R.1
      exact .inr (.inr (.inr (.inr ⟨_, xs, rfl, D, o m H _ rh Mv.refl (by rw [hl]; exact .int _)⟩)))
    · exact .inl (cs_len cl Wx m h H _ _ Q rh (.cons (.ref n hn) .nil) o)
  · exact .inl (cs_len cl Wx m h H _ _ Q rh r o)
def kW : Key → W
  | .inl i => .int i
  | .inr x => .str x
theorem kW_rw (k : Key) : RW G m n H (kW k) (kV k) := by cases k <;> first | exact .int _ | exact .str _
def bLst3 : List W → Hpe → Res W
  | [.ref n], h => match h.get n with
    | some (.dk kvs) => h.al (.lst (kvs.map fun kv => kW kv.1))
    | _ => bLst [.ref n] h
  | ws, h => bLst ws h
def rLst3 (G : GC) : List V → Hp → VK → Prop := fun xs H Q => (∃ p ys, xs = [V.ref p] ∧ (SqL G.K H p ys ∨ SqT G.K H p ys) ∧ ∀ (l : Addr), H l = none → Q (V.ref l) (upd H l (HO.lst ys))) ∨
  ∃ (a : Addr) (kvs : List (Key × V)), xs = [.ref a] ∧ Rd H a (.dK kvs) ∧ ∀ p, H p = none → Q (.ref p) (upd H p (.lst (kvs.map fun kv => kV kv.1)))
theorem keys_rw : ∀ {kvs : List (Key × W)} {kus : List (Key × V)}, kvs.map (·.1) = kus.map (·.1) → RWs G m n H (kvs.map fun kv => kW kv.1) (kus.map fun kv => kV kv.1)
  | [], [], _ => .nil
  | [], _ :: _, h => by simp at h
  | _ :: _, [], h => by simp at h
  | p :: kvs, q :: kus, h => by
    simp only [List.map_cons, List.cons.injEq] at h
    rw [List.map_cons, List.map_cons, h.1]
    exact .cons (kW_rw _) (keys_rw h.2)
theorem cs_lst3 : ClS G (rLst3 G) bLst3 := by
  intro cl Wx m h H ws vs Q rh r o
  unfold bLst3 at o
  split at o
  · rename_i n
    obtain ⟨v, rfl, rv⟩ := rws_one r
    obtain ⟨rfl, hn⟩ := rw_ref rv
    split at o
    · rename_i kvs e
      have e1 : rdK h n = some kvs := by unfold rdK; rw [e]
      obtain ⟨kus, eH, h1, h2⟩ := rh.dk hn e1
      exact .inr ⟨_, kus, rfl, .inl eH, al_ok rh o (.lst (keys_rw h1))⟩
    · exact .inl (cs_lst cl Wx m h H _ _ Q rh (.cons (.ref n hn) .nil) o)
  · exact .inl (cs_lst cl Wx m h H _ _ Q rh r o)
end
section
variable {X : Cx} {B : Bx} {e : Expr} {fs : FA} {pos p : Pos}
theorem se_len3 (hK : X.K = B.G.K) (hm' : Hm X B.G) (hm : X.mg "len" = none) (hg : Gl X "len") (ha : SA X B [e] fs) (h3 : starEach [e] X.env = (false, eval e X.env) :: starEach [] X.env) (h4 : (backTo pos (starEach [] X.env)).any (·.1) = false) : SE X B (.Call (.Name "len" p) [e] [] pos) (eBl bLen3 fs) :=
  se_bl' (r := rLen3 B.G) (CallR.or (by rw [← hK]; exact call_len_seq) (call_len_str.or (CallR.or (by rw [← hm'.w]; exact cr_lenS) (call_lenD.or (cr_lenN hK hm'))))) cs_len3 hg hm PySem.boot_len ha (by decide) (by decide) h3 h4
theorem se_lst3 (hK : X.K = B.G.K) (hc : X.calm = true) (hm : X.mg "list" = none) (hg : Gl X "list") (ha : SA X B [e] fs) (h3 : starEach [e] X.env = (false, eval e X.env) :: starEach [] X.env) (h4 : (backTo pos (starEach [] X.env)).any (·.1) = false) : SE X B (.Call (.Name "list" p) [e] [] pos) (eBl bLst3 fs) :=
  se_ty (r := rLst3 B.G) (CallR.or (by rw [← hK]; exact call_list_of) (call_listD hc)) cs_lst3 hg hm (by decide +kernel) ha (by decide) (by decide) h3 h4
end
end EV
namespace EV
open PySem PySem.Spec PyProof.Rows L2
def gTL (n : Nat) (gs : FGs) : FG := fun w ρ h => match rdS w h with
  | some ws => bif Nat.beq ws.length n then gs ws ρ h else .no
  | none => .no
section
variable {X : Cx} {B : Bx} {tgs : List Expr} {gs : FGs} {us : List Nat} {pos : Pos}
theorem pg_seq {K : PySem.W.Frag} {tg : Expr} {t t' : TG} (h : PG X tg t) (h' : PG X tg t') : PG X tg (fun v σ H Q => t v σ H Q ∨ t' v σ H Q) :=
  ⟨fun pins s σ H v u Q I r q => q.elim (h.run pins s σ H v u Q I r) (h'.run pins s σ H v u Q I r)⟩
theorem sg_tl (hK : X.K = B.G.K) {n k : Nat} (hc : X.calm = true) (h : SGs X B tgs gs us) (hn : (assignEach tgs X.env).length = n) (hst : (assignEach tgs X.env).findIdx? (·.1) = none) : SG X B (.Tuple tgs k pos) (gTL n gs) us :=
  pg_imp (pg_seq (K := X.K) (pg_tup hc h hn hst) (pg_unl hc h hn hst)) fun v σ H Q ⟨m, h, ρ, w, s, r, o⟩ => by
    simp only [gTL] at o
    split at o
    · rename_i ws e
      obtain ⟨p, xs, rfl, sq, q⟩ := rdS_ok s.rh r e
      cases c : Nat.beq ws.length n with
      | false => rw [c] at o; exact o.elim
      | true =>
        rw [c] at o
        rcases sq with sq | sq
        · exact .inr ⟨p, xs, rfl, by rw [hK]; exact sq, by rw [← q.len]; exact beq_eq c, m, h, ρ, ws, s, q, o⟩
        · exact .inl ⟨p, xs, rfl, by rw [hK]; exact sq, by rw [← q.len]; exact beq_eq c, m, h, ρ, ws, s, q, o⟩
    · exact o.elim
end
end EV
namespace EV
open PySem PySem.Spec PyProof.Rows L2
section
variable {X : Cx}
end
section
variable {G : GC} {m : Nat → Addr} {n : Nat} {H : Hp} {h : Hpe}
end
def Put1 (K : PySem.W.Frag) (P : Program) (w : World) (p : Addr) (x y : V) (H H' : Hp) : Prop :=
  (∃ b k xs, x = .ref b ∧ DnAt P w K H p xs ∧ Nk K H k x ∧ k.depth ≤ 8 ∧ xs.length < sizeLine ∧ H' = upd H p (dnO P w p (putV xs k b y))) ∨
  ∃ kvs k, x = kV k ∧ H p = some (.dK kvs) ∧ kvs.length < sizeLine ∧ H' = upd H p (.dK (putK kvs k y))
inductive Puts (K : PySem.W.Frag) (P : Program) (w : World) (p : Addr) : List (V × V) → Hp → Hp → Prop
  | nil {H : Hp} : Puts K P w p [] H H
  | cons {x y : V} {r : List (V × V)} {H H1 H2 : Hp} : Put1 K P w p x y H H1 → Puts K P w p r H1 H2 → Puts K P w p ((x, y) :: r) H H2
section
variable {X : Cx} {pins : List (Addr × Obj)} {σ : L2.St} {H : Hp} {s : Shared} {p : Addr} {A : Around} {E : Value → Shared → Prop}
end
section
variable {G : GC} {m : Nat → Addr} {H : Hp} {h h' : Hpe} {n : Nat}
end
section
variable {X : Cx} {B : Bx} {a b : Expr} {fa fb : FE} {pos : Pos} {keys : List (Option Expr)} {values : List Expr} {ps : Prs}
end
end EV
namespace EV
open PySem PySem.Spec PyProof.Rows L2
section
variable {X : Cx}
end
section
variable {G : GC} {m : Nat → Addr} {n : Nat} {H : Hp} {h : Hpe}
end
section
variable {X : Cx} {B : Bx} {a b : Expr} {fa fb : FE} {pos : Pos}
end
end EV
namespace EV
open PySem PySem.Spec PyProof.Rows L2
section
variable {X : Cx}
end
section
variable {G : GC} {m : Nat → Addr} {n : Nat} {H : Hp} {h : Hpe}
end
section
variable {X : Cx} {B : Bx} {a b : Expr} {fa fb : FE} {pos : Pos}
end
end EV
namespace EV
open PySem PySem.Spec PyProof.Rows L2
theorem note_by {e : Value} {env env' : Env} (h : env.frame = env'.frame) : noteFrame e env = noteFrame e env' := by
  unfold noteFrame PySem.frameOf
  simp only [h]
section
variable {M : Model} {A : Around} {E₁ : Value → Shared → Prop} {s : Shared} {base : Heap} {Z : Obj → Prop} {env : Env} {outer : List Env} {e L : Addr}
theorem note_other {fl : Value} {Q : Unit → Shared → Prop} (hZ : HandSPX.Steady Z) (hfr : A.frames = some (env :: outer)) (hf : env.frame = some L) (kb : base.StaysIn s.heap) (en : base.get? e = none) (hl : s.heap.FunFrames base (env :: outer)) (ht : HandSPX.TracedZ s.heap base e Z fl) (hne : (fl == rawInt L) = false)
    (q : ∀ h', HandSPX.HeldZ base (env :: outer) e Z L h' → s.heap.UpToSlots h' → Q () { s with heap := h' }) : wpAny M A (noteFrame (.ref e) env) Q E₁ s := by
  obtain ⟨oe, vs, T, oT, ts, he, hz, hd, h1, hnT, hTe, hT, hdT, h3⟩ := ht
  unfold noteFrame
  simp only [hf]
  refine wpAny_bind (wpAny_field he hd h1 (wp_if_pos (by simp) (wpAny_bind (wpAny_field hT hdT h3 ?_))))
  rw [hne]
  have sz := (Array.getElem?_eq_some_iff.mp h3).1
  refine wp_if_neg Bool.false_ne_true (wpAny_bind (wpAny_setField hT hdT sz ?_))
  have same : ∀ b, b ≠ T → (s.heap.update T (Obj.mapFields (·.setIfInBounds 3 Value.none))).get? b = s.heap.get? b := fun b hb => Heap.get?_update_other _ _ (Ne.symm hb)
  have notT : ∀ b o, s.heap.get? b = some o → (∀ vs, o.data ≠ .fields vs) → b ≠ T := fun b o hb hn z => by
    rw [z, hT] at hb; cases hb; exact hn ts hdT
  refine HandSPX.wpAny_entryZ hZ hfr (hl.of_keeps fun b o hb hn => ⟨o, (same b (notT b o hb hn)).trans hb, rfl⟩) hf ((same e (Ne.symm hTe)).trans he) (fun b o hb => (same b fun z => by rw [z, hnT] at hb; cases hb).trans (kb b o hb)) en hd (Array.getElem?_eq_some_iff.mp h1).1 hz fun h' x => ?_
  obtain ⟨x1, x2, x3, x4⟩ := x
  exact q h' ⟨x1, en, x2, x3⟩ fun b o hb hn => x4 b o ((same b (notT b o hb hn)).trans hb) hn
end
theorem funFrames_at {base h h' : Heap} : ∀ {l : List Env}, h.FunFrames base l → (∀ L ∈ frs l, h'.get? L = h.get? L) → h'.FunFrames base l
  | [], _, _ => trivial
  | env :: l, x, k => by
    obtain ⟨hk, ⟨L, o, hf, hn, ho, hd⟩, hr⟩ := x
    exact ⟨hk, ⟨L, o, hf, hn, (k L (List.mem_filterMap.mpr ⟨env, List.mem_cons_self .., hf⟩)).trans ho, hd⟩, funFrames_at hr fun b hb => by
      obtain ⟨e, he, q⟩ := List.mem_filterMap.mp hb
      exact k b (List.mem_filterMap.mpr ⟨e, List.mem_cons_of_mem _ he, q⟩)⟩
def StkAt (X : Cx) (L : Addr) : Prop := ∃ env0 outer0, X.stack = env0 :: outer0 ∧ env0.frame = some L ∧ X.env.frame = some L
def XEH (X : Cx) (L : Addr) (W : WX) (u : Value) (s' : Shared) : Prop :=
  ∃ (a : Addr) (B : Heap) (sI : Shared) (pins : List (Addr × Obj)) (σ : L2.St) (H : Hp) (cls : Value) (d : Option Addr),
    u = .ref a ∧ Inv X pins σ H sI ∧ (∀ b o, sI.heap.get? b = some o → b ∉ frs X.stack → B.get? b = some o) ∧ sI.heap.UpToSlots s'.heap ∧
      HandSPX.HeldZ B X.stack a (Zc cls d) L s'.heap ∧ H a = none ∧ s'.os = sI.os ∧ AllBare s'.gens ∧ W cls d σ H
def TakesH (X : Cx) (L : Addr) (W : WX) : Prop := ∀ u s', XEH X L W u s' → X.xe u s'
theorem takesH_of {X : Cx} {L : Addr} {W : WX} (tk : Takes X W) (e : X.env.locals = L) : TakesH X L W := fun u s' ⟨a, B, sI, pins, σ, H, cls, d, eu, I, nb, up, hd, na, os, ag, w⟩ =>
  tk u s' ⟨a, B, sI, pins, σ, H, cls, d, eu, I, nb, up, .inr (.inr (by rw [e]; exact hd)), na, os, ag, w⟩
abbrev blkX (X : Cx) (s : Shared) (H : Hp) (scope : Scope) (cenv : Env) (fp : List Addr) : Cx :=
  { X.blk s H scope cenv fp with xe := notedBy (model X.prog X.w) X.A cenv (CompFails (model X.prog X.w) X.A X.xe cenv) }
theorem Inv.out {X : Cx} {xe : Value → Shared → Prop} {pins : List (Addr × Obj)} {σ : L2.St} {H : Hp} {s : Shared} (I : Inv X pins σ H s) : Inv { X with xe := xe } pins σ H s :=
  ⟨⟨I.ok.mod, I.ok.kind, I.ok.glob, I.ok.blt, I.ok.above, I.ok.inj, I.ok.has, I.ok.cab, I.ok.hd, I.ok.frames, I.ok.stk, I.ok.exf, I.ok.bs, I.ok.bsz, I.ok.noex, I.ok.exfs, I.ok.funs, I.ok.frf⟩, I.os, I.bare, I.base, I.loc, I.cell, I.free, I.freeC, I.pin, I.hok, I.len⟩
section
variable {X : Cx} {pins : List (Addr × Obj)} {σ : L2.St} {H3 : Hp} {s3 : Shared} {scope : Scope} {ce : Env} {fp : List Addr} {L : Addr} {W : WX}
theorem blk_out (st : StkAt X L) (th : TakesH X L W) (I3 : Inv X pins σ H3 s3) (f3 : ∀ b ∈ fp, FpOk X pins H3 b ∧ b < s3.heap.objs.size) (hC : ce.locals = s3.heap.objs.size) (hcf : ce.frame = X.env.frame)
    {a : Addr} {B : Heap} {sI s' : Shared} {pins' : List (Addr × Obj)} {σ' : L2.St} {H : Hp} {cls : Value} {d : Option Addr} (I : Inv (blkX X s3 H3 scope ce fp) pins' σ' H sI) (nb : ∀ b o, sI.heap.get? b = some o → b ∉ frs X.stack → B.get? b = some o) (up : sI.heap.UpToSlots s'.heap)
    (na : H a = none) (os : s'.os = sI.os) (ag : AllBare s'.gens) (w : W cls d σ H) {h1 : Heap} (hd : HandSPX.HeldZ B X.stack a (Zc cls d) L h1) (up1 : s'.heap.UpToSlots h1) :
    CompFails (model X.prog X.w) X.A X.xe ce (.ref a) { s' with heap := h1 } := by
  obtain ⟨env0, outer0, e1, e2, e3⟩ := st
  have upI : sI.heap.UpToSlots h1 := up.trans up1
  obtain ⟨mm, hn, _⟩ := I.loc
  have hn : sI.heap.Ns ce.locals mm := hn
  have hn1 : h1.Ns ce.locals mm := Heap.UpToSlots.ns upI hn
  obtain ⟨oC, esC, epC, hoC, hdC, _⟩ := id hn1
  refine ⟨mm, hn1, fun h2 m2 hn2 sb => ?_⟩
  obtain ⟨k1, k2, k3, oe, vs, T, oT, ts, he, hz, hde, h1e, hnT, hTe, hT, hdT, h3⟩ := hd
  have eC : a ≠ ce.locals := fun z => by rw [z, hoC] at he; cases he; rw [hdC] at hde; cases hde
  have TC : T ≠ ce.locals := fun z => by rw [z, hoC] at hT; cases hT; rw [hdC] at hdT; cases hdT
  obtain ⟨B2, b1, b2⟩ := restrict B fun b => decide (b ≠ ce.locals)
  have inB : ∀ b o, B2.get? b = some o → b ≠ ce.locals ∧ B.get? b = some o := fun b o e => by
    by_cases c : b = ce.locals
    · rw [b2 b (by simp [c])] at e; cases e
    · exact ⟨c, by rw [← b1 b (by simp [c])]; exact e⟩
  obtain ⟨G, g1, g2⟩ := restrict sI.heap fun b => decide (b ≠ ce.locals)
  have inG : ∀ b o, G.get? b = some o → b ≠ ce.locals ∧ sI.heap.get? b = some o := fun b o e => by
    by_cases c : b = ce.locals
    · rw [g2 b (by simp [c])] at e; cases e
    · exact ⟨c, by rw [← g1 b (by simp [c])]; exact e⟩
  have nfr : ce.locals ∉ frs X.stack := fun z => by
    obtain ⟨_, o, ho, _⟩ := (I3.stack).mem z
    have := Heap.lt_size ho
    rw [hC] at this
    exact absurd this (Nat.lt_irrefl _)
  have kb2 : B2.StaysIn h2 := fun b o e => by
    obtain ⟨c, e⟩ := inB b o e
    exact (sb.2 b c).trans (k1 b o e)
  have a2 : B2.get? a = none := by
    cases q : B2.get? a with
    | none => rfl
    | some o => have := (inB a o q).2; rw [k2] at this; cases this
  have T2 : B2.get? T = none := by
    cases q : B2.get? T with
    | none => rfl
    | some o => have := (inB T o q).2; rw [hnT] at this; cases this
  have ff2 : h2.FunFrames B2 X.stack := by
    refine funFrames_none (funFrames_at k3 fun b hb => sb.2 b fun z => nfr (by rw [← z]; exact hb)) fun b hb => ?_
    cases q : B2.get? b with
    | none => rfl
    | some o => have := (inB b o q).2; rw [(k3.mem hb).1] at this; cases this
  have he2 : h2.get? a = some oe := (sb.2 a eC).trans he
  have tr2 : HandSPX.TracedZ h2 B2 a (Zc cls d) (rawInt L) := ⟨oe, vs, T, oT, ts, he2, hz, hde, h1e, T2, hTe, (sb.2 T TC).trans hT, hdT, h3⟩
  have up2 : G.UpToSlots h2 := fun b o e hnf => by
    obtain ⟨c, e⟩ := inG b o e
    obtain ⟨sl, q⟩ := upI b o e hnf
    exact ⟨sl, (sb.2 b c).trans q⟩
  unfold PySem.passOn
  refine wpAny_bind (wpAny_field (s := { s' with heap := h2 }) he2 hde h1e (wp_if_neg (by simp) (wpAny_bind ?_)))
  rw [hcf, e3]
  refine HandSPX.setFlight_anyZ (s := { s' with heap := h2 }) kb2 ff2 tr2 fun h4 x1 x2 x3 x4 => wpAny_throw (th _ _ ?_)
  -- the def's own state without the block
  have I7 : Inv X pins σ H sI := I3.call' (ch := fp) I.os I.base I.hok I.bare fun b hb => ⟨(f3 b hb).1.2.2.2.1, (f3 b hb).1.2.1, (f3 b hb).1.2.2.2.2.1, (f3 b hb).1.2.2.2.2.2⟩
  have nC : H ce.locals = none := I.free
  obtain ⟨q0, q1, q2, q3, q4, q5⟩ := I3.fpOk (b := ce.locals) (Nat.le_of_eq hC.symm) nC
  have I8 : Inv X pins σ H { sI with heap := G, toks := sI.toks } := I7.turned (fun b o hb e => by rw [g1 b (by simp [hb])]; exact e) q0 q1 q3 q4 q5
  exact ⟨a, B2, _, pins, σ, H, cls, d, rfl, I8, fun b o e hb => by
    obtain ⟨c, e⟩ := inG b o e
    rw [b1 b (by simp [c])]
    exact nb b o e hb, up2.trans x4, ⟨x1, a2, x2, x3⟩, na, os, ag, w⟩
theorem blk_takes (st : StkAt X L) (th : TakesH X L W) (I3 : Inv X pins σ H3 s3) (f3 : ∀ b ∈ fp, FpOk X pins H3 b ∧ b < s3.heap.objs.size) (hC : ce.locals = s3.heap.objs.size) (hcf : ce.frame = X.env.frame) :
    Takes (blkX X s3 H3 scope ce fp) (fun c d _ H => W c d σ H) ∧ TakesH (blkX X s3 H3 scope ce fp) L (fun c d _ H => W c d σ H) := by
  obtain ⟨env0, outer0, e1, e2, e3⟩ := id st
  have hfr : X.A.frames = some (env0 :: outer0) := by rw [I3.ok.frames, e1]
  refine ⟨fun u s' x => ?_, fun u s' x => ?_⟩
  · obtain ⟨a, B, sI, pins', σ', H, cls, d, rfl, I, nb, up, sky, na, os, ag, w⟩ := x
    show wpAny _ _ (noteFrame (.ref a) ce) _ _ s'
    rw [note_by (env' := env0) (hcf.trans (e3.trans e2.symm))]
    have fin : ∀ h1, HandSPX.HeldZ B (env0 :: outer0) a (Zc cls d) L h1 → s'.heap.UpToSlots h1 → CompFails (model X.prog X.w) X.A X.xe ce (.ref a) { s' with heap := h1 } := fun h1 hh up1 =>
      blk_out st th I3 f3 hC hcf I nb up na os ag w (by rw [e1]; exact hh) up1
    have sky : Sky B (env0 :: outer0) a (Zc cls d) ce.locals s'.heap := by rw [← e1]; exact sky
    rcases sky with ⟨hB, hn, hl, oe, vs, he, hz, hd, h1⟩ | fl | hh
    · exact HandSPX.look_newZ Zc.steady hfr hl e2 he hB hn hd h1 hz fin
    · exact HandSPX.looks_onZ Zc.steady hfr e2 fl fin
    · obtain ⟨y1, y2, y3, y4⟩ := hh
      refine note_other Zc.steady hfr e2 y1 y2 y3 y4 ?_ fin
      cases c : (rawInt ce.locals == rawInt L) with
      | false => rfl
      | true =>
        exfalso
        have e : ce.locals = L := by
          have := eq_of_beq c
          unfold rawInt at this
          injection this with this
          exact Int.ofNat.inj this
        have hm : L ∈ frs X.stack := by rw [e1]; exact List.mem_filterMap.mpr ⟨env0, List.mem_cons_self .., e2⟩
        obtain ⟨_, o, ho, _⟩ := I3.stack.mem hm
        have := Heap.lt_size ho
        rw [← e, hC] at this
        exact absurd this (Nat.lt_irrefl _)
  · obtain ⟨a, B, sI, pins', σ', H, cls, d, rfl, I, nb, up, hh, na, os, ag, w⟩ := x
    show wpAny _ _ (noteFrame (.ref a) ce) _ _ s'
    rw [note_by (env' := env0) (hcf.trans (e3.trans e2.symm))]
    have hh : HandSPX.HeldZ B X.stack a (Zc cls d) L s'.heap := hh
    exact HandSPX.againZ e2 hh.2.2.2 (blk_out st th I3 f3 hC hcf I nb up na os ag w hh (Heap.UpToSlots.refl _))
end
end EV
namespace EV
open PySem PySem.Spec PyProof.Rows L2
inductive CK where
  | lst (e : Expr)
  | set (e : Expr)
  | dct (k v : Expr)
abbrev CK.ex (c : CK) (gens : List Comprehension) (scope : Scope) (pos : Pos) : Expr := match c with
  | .lst e => .ListComp e gens scope pos
  | .set e => .SetComp e gens scope pos
  | .dct k v => .DictComp k v gens scope pos
def CK.more (c : CK) (D : Addr) (env : Env) : Sem Unit := match c with
  | .lst e => eval e env >>= fun x => call (.builtin "list.append") [.ref D, x] >>= fun _ => pure ()
  | .set e => eval e env >>= fun v => standAt e.pos >>= fun _ => call (.builtin "set.add") [.ref D, v] >>= fun _ => pure ()
  | .dct k v => eval k env >>= fun kv => holding [kv] (eval v env) >>= fun vv => standAt { k.pos with endLine := v.pos.endLine, endCol := v.pos.endCol } >>= fun _ => holding [kv, vv] (dictSet D kv vv)
section
variable {prog : Program} {w : World} {A : Around} {s : Shared} {c : CK} {gens : List Comprehension} {scope : Scope} {pos : Pos} {j : Nat} {it : Value} {D : Addr} {env : Env} {tg iter : Expr} {ifs : List Expr}
def BodyOk (prog : Program) (w : World) (A : Around) (c : CK) (gens : List Comprehension) (scope : Scope) (pos : Pos) (j : Nat) (D : Addr) (env : Env) (NE : Value → Shared → Prop) (P : Shared → Prop) (s : Shared) : Prop := match gens[j + 1]? with
  | some g => wpAny (model prog w) A (eval g.iter env) (fun x s4 => wpAny (model prog w) A (pyIter x) (fun it1 s5 => codeAny (model prog w) A (.compStart (c.ex gens scope pos) (j + 1) it1 (.ref D) env) (fun r s' => match r with
      | .ok _ => P s'
      | .error e => cameBackBy (model prog w) A env NE e s') s5) NE s4) NE s
  | none => wpAny (model prog w) A (c.more D env) (fun _ s5 => P s5) NE s
def testsC (ifs : List Expr) (env : Env) : Sem Bool := forIn ifs true fun c r => if r = true then do let ok ← isTrue c env (eval c env); pure (ForInStep.yield ok) else pure (ForInStep.yield r)
theorem turn_wp (hg : gens[j]? = some ⟨tg, iter, ifs, 0⟩) (h0 : ∀ g, gens[j + 1]? = some g → g.is_async = 0 ∧ ∀ x, foldedSetIterable g.iter env x = pure x) {Q : PySem.Fin → Shared → Prop} {NE : Value → Shared → Prop} {P : Shared → Prop}
    (hP : ∀ s', P s' → Q (.again (.compLoop (c.ex gens scope pos) j it (.ref D) env)) s')
    (h : wpAny (model prog w) A (pyNext it) (fun r s1 => match r with
      | none => Q (.done .next) s1
      | some v => wpAny (model prog w) A (letOwnedTupleGo tg it v) (fun _ s2 => wpAny (model prog w) A (assign tg env v) (fun _ s3 => wpAny (model prog w) A (testsC ifs env) (fun ok s4 =>
          if ok = true then BodyOk prog w A c gens scope pos j D env NE P s4 else P s4) NE s3) NE s2) NE s1) NE s) :
    wpAny (model prog w) A (compTurn (c.ex gens scope pos) j it (.ref D) env) Q NE s := by
  have last : ∀ s', P s' → wpAny (model prog w) A (again (.compLoop (c.ex gens scope pos) j it (.ref D) env)) Q NE s' := fun s' p => wpAny_pure (hP s' p)
  cases hn : gens[j + 1]? with
  | none =>
    have body : ∀ s4, BodyOk prog w A c gens scope pos j D env NE P s4 → wpAny (model prog w) A (c.more D env) (fun _ s5 => P s5) NE s4 := fun s4 b => by
      unfold BodyOk at b
      rw [hn] at b
      exact b
    cases c <;>
    · unfold compTurn
      simp only [hg, hn]
      refine wpAny_bind (wpAny_standAt (wpAny_bind (wpAny_mono h (fun r s1 h1 => ?_) fun _ _ z => z)))
      cases r with
      | none => exact wpAny_pure h1
      | some v =>
        refine wpAny_bind (wpAny_mono h1 (fun _ s2 h2 => wpAny_bind (wpAny_mono h2 (fun _ s3 h3 => wpAny_bind (wpAny_mono h3 (fun ok s4 h4 => ?_) fun _ _ z => z)) fun _ _ z => z)) fun _ _ z => z)
        cases ok with
        | false => exact last s4 h4
        | true => exact wp_if_pos rfl (wpAny_bind (wpAny_mono (body s4 h4) (fun _ s5 p => last s5 p) fun _ _ z => z))
  | some g =>
    obtain ⟨as0, fold0⟩ := h0 g hn
    have body : ∀ s4, BodyOk prog w A c gens scope pos j D env NE P s4 → wpAny (model prog w) A (eval g.iter env) (fun x s4 => wpAny (model prog w) A (pyIter x) (fun it1 s5 => codeAny (model prog w) A (.compStart (c.ex gens scope pos) (j + 1) it1 (.ref D) env) (fun r s' => match r with
        | .ok _ => P s'
        | .error e => cameBackBy (model prog w) A env NE e s') s5) NE s4) NE s4 := fun s4 b => by
      unfold BodyOk at b
      rw [hn] at b
      exact b
    cases c <;>
    · unfold compTurn
      simp only [hg, hn]
      refine wpAny_bind (wpAny_standAt (wpAny_bind (wpAny_mono h (fun r s1 h1 => ?_) fun _ _ z => z)))
      cases r with
      | none => exact wpAny_pure h1
      | some v =>
        refine wpAny_bind (wpAny_mono h1 (fun _ s2 h2 => wpAny_bind (wpAny_mono h2 (fun _ s3 h3 => wpAny_bind (wpAny_mono h3 (fun ok s4 h4 => ?_) fun _ _ z => z)) fun _ _ z => z)) fun _ _ z => z)
        cases ok with
        | false => exact last s4 h4
        | true =>
          refine wp_if_pos rfl ?_
          simp only [as0]
          refine wpAny_bind (wpAny_mono (body s4 h4) (fun x s5 h5 => ?_) fun _ _ z => z)
          refine wpAny_bind (wpAny_standAt (wpAny_bind (wpAny_of_eq (fold0 x) (wpAny_bind (wpAny_holding (wpAny_mono h5 (fun it1 s6 h6 => ?_) fun _ _ z => z))))))
          refine wpAny_bind (wpAny_runOwn ?_)
          rw [Around.mark_none]
          refine codeAny_mono h6 fun r s' hr => ?_
          cases r with
          | ok f => exact last s' hr
          | error e => exact hr
theorem loop_at (hg : gens[j]? = some ⟨tg, iter, ifs, 0⟩) (h0 : ∀ g, gens[j + 1]? = some g → g.is_async = 0 ∧ ∀ x, foldedSetIterable g.iter env x = pure x) {R : Result → Shared → Prop} (I : Nat → Shared → Prop)
    (turn : ∀ n s, I n s → wpAny (model prog w) A (pyNext it) (fun r s1 => match r with
      | none => R (.ok .next) s1
      | some v => wpAny (model prog w) A (letOwnedTupleGo tg it v) (fun _ s2 => wpAny (model prog w) A (assign tg env v) (fun _ s3 => wpAny (model prog w) A (testsC ifs env) (fun ok s4 =>
          if ok = true then BodyOk prog w A c gens scope pos j D env (notedBy (model prog w) A env fun e s' => R (.error e) s') (fun s' => ∃ m, m < n ∧ I m s') s4 else ∃ m, m < n ∧ I m s4)
          (notedBy (model prog w) A env fun e s' => R (.error e) s') s3) (notedBy (model prog w) A env fun e s' => R (.error e) s') s2) (notedBy (model prog w) A env fun e s' => R (.error e) s') s1) (notedBy (model prog w) A env fun e s' => R (.error e) s') s)
    (n : Nat) (h : I n s) : codeAny (model prog w) A (.compLoop (c.ex gens scope pos) j it (.ref D) env) R s := by
  cases c <;>
  · refine codeAny_loop rfl I (fun n s hI => ?_) n h
    refine wpAny_noted (m := compTurn _ j it (.ref D) env) ?_
    exact turn_wp hg h0 (fun s' p => ⟨rfl, p⟩) (turn n s hI)
theorem start_at (hg : gens[j]? = some ⟨tg, iter, ifs, 0⟩) {R : Result → Shared → Prop} (h1 : codeAny (model prog w) A (.compLoop (c.ex gens scope pos) j it (.ref D) env) R s)
    (h2 : wpAny (model prog w) A (pyIter it) (fun it' s' => codeAny (model prog w) A (.compLoop (c.ex gens scope pos) j it' (.ref D) env) R s') (notedBy (model prog w) A env fun x s' => R (.error x) s') s) :
    codeAny (model prog w) A (.compStart (c.ex gens scope pos) j it (.ref D) env) R s := by
  cases c <;>
  · refine codeAny_of_tree ?_
    refine wpAny_notedAt (m := compStart _ j it (.ref D) env) ?_
    unfold compStart
    simp only [CK.ex, clausesOf, hg]
    refine wpAny_bind (wpAny_askSetting (wpAny_ite ?_))
    split
    · exact wpAny_bind (wpAny_pure (wpAny_pure ⟨rfl, h1⟩))
    · exact wpAny_bind (wpAny_rule (wpAny_bind (wpAny_standAt (wpAny_bind (wpAny_mono h2 (fun it' s' h' => wpAny_pure ⟨rfl, h'⟩) fun _ _ x => x)))))
end
end EV
namespace EV
open PySem PySem.Spec PyProof.Rows L2
abbrev TB := L2.St → Hp → (Hp → Prop) → Prop
theorem BodyOk.mono {prog : Program} {w : World} {A : Around} {s : Shared} {c : CK} {gens : List Comprehension} {scope : Scope} {pos : Pos} {j : Nat} {D : Addr} {env : Env} {NE : Value → Shared → Prop} {P P' : Shared → Prop} (h : BodyOk prog w A c gens scope pos j D env NE P s) (f : ∀ s', P s' → P' s') : BodyOk prog w A c gens scope pos j D env NE P' s := by
  unfold BodyOk at h ⊢
  split at h
  · rename_i g e
    refine wpAny_mono h (fun x s4 h4 => wpAny_mono h4 (fun it1 s5 h5 => codeAny_mono h5 fun r s' hr => ?_) fun _ _ z => z) fun _ _ z => z
    cases r with
    | ok _ => exact f s' hr
    | error _ => exact hr
  · exact wpAny_mono h (fun _ s5 p => f s5 p) fun _ _ z => z
structure PBd (X : Cx) (c : CK) (gens : List Comprehension) (scope : Scope) (pos : Pos) (j : Nat) (D : Addr) (bt : TB) (vs : List Nat) : Prop where
  run : ∀ (pins : List (Addr × Obj)) (s : Shared) (σ : L2.St) (H : Hp) (Q : Hp → Prop) (NE : Value → Shared → Prop), Inv X pins σ H s → bt σ H Q → (∀ e s', X.xe e s' → NE e s') →
    BodyOk X.prog X.w X.A c gens scope pos j D X.env NE (fun s' => ∃ H', Inv X pins (L2.wipe σ vs) H' s' ∧ Q H') s
def Turns (J : It) (g : TG) (tt : TT) (bt : TB) (vs : List Nat) (σ : L2.St) (Q : Hp → Prop) (W : Nat → Nat → Hp → Prop) : Prop := ∀ i m H, W i m H → (J.stop i H ∧ Q H) ∨ (J.go i H ∧ ∃ Nx : Hp → Prop, (∀ H', Nx H' → ∃ m', m' < m ∧ W (i + 1) m' H') ∧
  ∀ x H', J.yld i H x H' → g x (L2.wipe σ vs) H' fun σ2 H2 => L2.wipe σ2 vs = L2.wipe σ vs ∧ tt σ2 H2 fun b H3 => if b = true then bt σ2 H3 Nx else Nx H3)
section
variable {X : Cx} {c : CK} {gens : List Comprehension} {scope : Scope} {pos : Pos} {j : Nat} {D : Addr} {tg iter : Expr} {ifs : List Expr} {wi : TI} {g : TG} {tt : TT} {bt : TB} {vs vsI : List Nat}
def GensOk (gens : List Comprehension) (env : Env) (j : Nat) : Prop := ∀ g, gens[j + 1]? = some g → g.is_async = 0 ∧ ∀ x, foldedSetIterable g.iter env x = pure x
theorem loop_run (hc : X.calm = true) (hg : gens[j]? = some ⟨tg, iter, ifs, 0⟩) (h0 : GensOk gens X.env j) (pg : PG X tg g) (pt : PTs X ifs tt) (pb : PBd X c gens scope pos j D bt vsI) (hsub : ∀ i ∈ vsI, i ∈ vs)
    {it : Addr} {fp : List Addr} {tn : Nat → Heap → Prop} {J : It} (T : Turn X.prog X.w X.K tg J fp it tn) {pins : List (Addr × Obj)} {σ : L2.St} (sta : ∀ H' : Hp, (∀ b ∈ fp, H' b = none) → ∀ b ∈ fp, FpOk X pins H' b) {Q : Hp → Prop} {W : Nat → Nat → Hp → Prop} (turn : Turns J g tt bt vs σ Q W)
    {R : Result → Shared → Prop} (Rok : ∀ s' H', Inv X pins (L2.wipe σ vs) H' s' → Q H' → R (.ok .next) s') (Rer : ∀ e s', X.xe e s' → notedBy (model X.prog X.w) X.A X.env (fun e s' => R (.error e) s') e s')
    {m : Nat} {H : Hp} {s : Shared} (I : Inv X pins (L2.wipe σ vs) H s) (st : tn 0 s.heap) (nfp : ∀ b ∈ fp, H b = none) (w0 : W 0 m H) : codeAny (model X.prog X.w) X.A (.compLoop (c.ex gens scope pos) j (.ref it) (.ref D) X.env) R s := by
  refine loop_at hg h0 (fun n s' => ∃ i H', Inv X pins (L2.wipe σ vs) H' s' ∧ tn i s'.heap ∧ (∀ b ∈ fp, H' b = none) ∧ W i n H') ?_ m ⟨0, H, I, st, nfp, w0⟩
  rintro n s5 ⟨i, H5, I5, st5, n5, w5⟩
  rcases turn i n H5 w5 with ⟨stop, q⟩ | ⟨go, Nx, next, step⟩
  · refine wpAny_mono (T.done X rfl rfl rfl hc i pins s5 _ H5 _ I5 (sta H5 n5) st5 stop) (fun r s6 ⟨hr, I6⟩ => ?_) fun _ _ z => z
    subst hr
    exact Rok s6 H5 I6 q
  · refine wpAny_mono (T.item X rfl rfl rfl hc i pins s5 _ H5 _ I5 (sta H5 n5) st5 go) (fun r s6 ⟨u, hr, h6⟩ => ?_) fun _ _ z => z
    subst hr
    refine wpAny_mono h6 (fun _ s7 ⟨x, H7, I7, r7, y7, st7, n7⟩ => ?_) fun _ _ z => z
    have I7' := I7.pinned (sta H7 n7) (T.obj _ _ st7)
    refine wpAny_mono (pg.run _ s7 _ H7 x u _ I7' r7 (step x H7 y7)) (fun _ s8 ⟨σ8, H8, I8, hw8, q8⟩ => ?_) Rer
    refine wpAny_mono (pt.run _ s8 σ8 H8 _ I8 q8) (fun b s9 ⟨H9, I9, q9⟩ => ?_) Rer
    have fin : ∀ {σ9 : L2.St} {s' : Shared} {H' : Hp}, Inv X (pins ++ pinsAt fp s7.heap) σ9 H' s' → (L2.wipe σ vs).length = σ9.length → (∀ (k : Nat) v, (L2.wipe σ vs)[k]? = some (some v) → σ9[k]? = some (some v)) → Nx H' →
        ∃ m, m < n ∧ ∃ i H', Inv X pins (L2.wipe σ vs) H' s' ∧ tn i s'.heap ∧ (∀ b ∈ fp, H' b = none) ∧ W i m H' := fun {σ9 s' H'} I' hl hk nx => by
      obtain ⟨m', hm, w'⟩ := next H' nx
      have pin' : ∀ b ∈ fp, ∀ o, s7.heap.get? b = some o → s'.heap.get? b = some o ∧ H' b = none := fun b hb o e =>
        let z := I'.pin (b, o) (List.mem_append_right _ (List.mem_append_right _ (mem_pinsAt hb e)))
        ⟨z.1, z.2.1⟩
      refine ⟨m', hm, i + 1, H', I'.unpinned.weak hl hk, T.keep _ _ _ st7 fun b hb o e => (pin' b hb o e).1, fun b hb => ?_, w'⟩
      obtain ⟨o, e, _⟩ := T.obj _ _ st7 b hb
      exact (pin' b hb o e).2
    have hl8 : (L2.wipe σ vs).length = σ8.length := by rw [← hw8, L2.wipe_length]
    cases b with
    | false =>
      rw [if_neg Bool.false_ne_true] at q9 ⊢
      exact fin I9 hl8 (fun k v e => by rw [← hw8] at e; exact (wipe_some e).1) q9
    | true =>
      rw [if_pos rfl] at q9 ⊢
      refine (pb.run _ s9 σ8 H9 Nx _ I9 q9 Rer).mono fun s' ⟨H', I', nx⟩ => fin I' (hl8.trans (L2.wipe_length σ8 vsI).symm) (fun k v e => ?_) nx
      rw [← hw8] at e
      obtain ⟨e1, e2⟩ := wipe_some e
      rw [wipe_out fun z => e2 (hsub k z)]
      exact e1
end
section
variable {X : Cx} {gens : List Comprehension} {scope : Scope} {pos : Pos} {j : Nat} {D : Addr} {e k v : Expr} {te tk tv : TE}
def tMoreL (te : TE) (D : Addr) : TB := fun σ H Q => te σ H fun y H4 => ∃ acc, H4 D = some (.lst acc) ∧ acc.length < sizeLine ∧ Q (upd H4 D (.lst (acc ++ [y])))
theorem more_l (hn : gens[j + 1]? = none) (he : PE X e te) : PBd X (.lst e) gens scope pos j D (tMoreL te D) [] := by
  refine ⟨fun pins s σ H Q NE I h hx => ?_⟩
  unfold BodyOk
  rw [hn]
  refine wpAny_bind (wpAny_mono (he.run pins s σ H _ I h) (fun u s4 ⟨y, H4, I4, r4, acc, hD, hz, q⟩ => ?_) hx)
  exact wpAny_bind (wpAny_mono (app_ok I4 hD hz r4 (Q := fun _ s' => ∃ H', Inv X pins σ H' s' ∧ Q H') fun s5 I5 => ⟨_, I5, q⟩) (fun _ s5 z => wpAny_pure z) hx)
end
end EV
namespace EV
open PySem PySem.Spec PyProof.Rows L2
def CK.new (c : CK) : Sem Value := match c with
  | .lst _ => newList []
  | .set _ => newSet (.type "set")
  | .dct _ _ => newDict
def CK.ho (c : CK) (w : World) (D : Addr) : HO := match c with
  | .lst _ => .lst []
  | .set _ => snO w D []
  | .dct _ _ => .dK []
section
variable {X : Cx} {pins : List (Addr × Obj)} {σ : L2.St} {H : Hp} {s : Shared} {c : CK}
theorem acc_new {E : Value → Shared → Prop} {A : Around} {Q : Value → Shared → Prop} (I : Inv X pins σ H s)
    (q : ∀ s3, (∀ b o, s.heap.get? b = some o → s3.heap.get? b = some o) → Inv X pins σ (upd H s.heap.objs.size (c.ho X.w s.heap.objs.size)) s3 → Q (.ref s.heap.objs.size) s3) : wpAny (model X.prog X.w) A c.new Q E s := by
  cases c with
  | lst e =>
    refine wpAny_newList (q { s with heap := _ } (fun b o e => Heap.get?_push_of_some _ e) ?_) (by decide)
    exact I.laid (t' := s.toks) (fun b o e => Heap.get?_push_of_some _ e) (Nat.le_refl _) ⟨Nat.zero_le _, [], 0, .nil, Heap.get?_push_size _ rfl⟩
  | set e =>
    refine wpAny_newSet_raw fun led hl => ?_
    subst hl
    exact q { s with heap := _ } (fun b o e => Heap.get?_push_of_some _ e) (I.laid (t' := s.toks) (fun b o e => Heap.get?_push_of_some _ e) (Nat.le_refl _) (sn_ok (.fresh (Heap.get?_push_size _ rfl))))
  | dct k v =>
    unfold CK.new newDict
    refine wpAny_newObj_type ?_ ?_
    · exact q { s with heap := _ } (fun b o e => Heap.get?_push_of_some _ e) (I.laid (t' := s.toks) (fun b o e => Heap.get?_push_of_some _ e) (Nat.le_refl _) (dk_empty s.heap I.big))
    · show (0 : Nat) ≤ sizeLine + 1
      exact Nat.zero_le _
def LkB (X : Cx) (s : Shared) (H : Hp) (fp : List Addr) : Prop := (∃ pins σ, Inv X pins σ H s) ∧ ∀ b ∈ fp, b ∈ X.ex ∨ X.s_0.heap.objs.size ≤ b
def InBlk (X : Cx) (scope : Scope) (L : Addr) (W : WX) (F : Cx → Prop) : Prop := ∀ (s : Shared) (H : Hp) (C : Addr) (cl : List (Str × Addr)) (fp : List Addr), Takes (blkX X s H scope (compEnvC scope cl C X.env) fp) W → TakesH (blkX X s H scope (compEnvC scope cl C X.env) fp) L W → StkAt (blkX X s H scope (compEnvC scope cl C X.env) fp) L → LkB X s H fp →
  F (blkX X s H scope (compEnvC scope cl C X.env) fp)
theorem comp_core {tg iter : Expr} {ifs : List Expr} {rest : List Comprehension} {scope : Scope} {own : List (Str × Nat)} {pos pos' : Pos} {wi : TI} {g : TG} {tt : TT} {bt : Addr → TB} {vsI : List Nat} {use : Option (Value → Sem Unit)} {Q : VK} {Qf : Value → Shared → Prop} {L : Addr} {W : WX}
    (hc : X.calm = true) (hN : X.N.Nodup) (I : Inv X pins σ H s) (hi : PI X tg iter wi) (ok : BlkOk X.N X.env.scope scope own) (st : StkAt X L) (th : TakesH X L W) (hs : ∀ x, foldedSetIterable iter X.env x = pure x)
    (h0 : ∀ env, GensOk (⟨tg, iter, ifs, 0⟩ :: rest) env 0) (hg : InBlk X scope L (fun c d _ H => W c d σ H) fun Y => PG Y tg g) (ht : InBlk X scope L (fun c d _ H => W c d σ H) fun Y => PTs Y ifs tt)
    (hb : InBlk X scope L (fun c d _ H => W c d σ H) fun Y => ∀ D, PBd Y c (⟨tg, iter, ifs, 0⟩ :: rest) scope pos 0 D (bt D) vsI) (hsub : ∀ i ∈ vsI, i ∈ own.map (·.2))
    (h : wi σ H fun J H1 => ∀ D, H1 D = none → ∃ Wm : Nat → Nat → Hp → Prop, (∃ m, Wm 0 m (upd H1 D (c.ho X.w D))) ∧ Turns J g tt (bt D) (own.map (·.2)) σ (fun H' => Q (.ref D) H') Wm)
    (hRR : ∀ D (ce : Env) s' m H', Inv X pins σ H' s' → Q (.ref D) H' → s'.heap.Ns ce.locals m → FpOk X pins H' ce.locals → compEnds (model X.prog X.w) X.A X.xe use Qf (.ref D) ce (.ok .next) s') :
    wpAny (model X.prog X.w) X.A (comprehension (c.ex (⟨tg, iter, ifs, 0⟩ :: rest) scope pos) scope X.env pos' c.new false (eval iter X.env) use) Qf X.xe s := by
  have hfree : ∀ y ∈ scope.names, y.2 = .free → ∃ c, X.env.cells.lookup y.1 = some c := fun y hy e => (ok.free y hy e).elim (fun k => I.ok.has _ (.inl k)) fun k => I.ok.has _ (.inr k)
  refine comprehension_at (g := ⟨tg, iter, ifs, 0⟩) (gs := rest) (use := use) (by cases c <;> rfl) hs (closure_ok hfree) ok.kind (fun y hy e => by rw [ok.uniq y hy, e]) (thn (hi.run pins s σ H _ I h) fun xv s1 hx => thn hx fun itv s2 h2 => ?_)
  obtain ⟨it, fp, tn, J, H2, rfl, I2, T, st2, f2, q⟩ := h2
  refine acc_new I2 fun s3 k3 I3 => newEnv_comp ?_
  generalize hD : s2.heap.objs.size = D at I3 ⊢
  have hDn : H2 D = none := I2.hok.fresh (Nat.le_of_eq hD)
  obtain ⟨Wm, ⟨m0, w0⟩, turn⟩ := q D hDn
  have f3 : ∀ b ∈ fp, FpOk X pins (upd H2 D (c.ho X.w D)) b ∧ b < s3.heap.objs.size := fun b hb => by
    obtain ⟨o, e, _⟩ := T.obj _ _ st2 b hb
    have lt := Heap.lt_size e
    refine ⟨⟨?_, (f2 b hb).2⟩, Heap.lt_size (k3 b o e)⟩
    rw [upd_ne (by rw [← hD]; exact Nat.ne_of_lt lt)]
    exact (f2 b hb).1
  have st3 : tn 0 s3.heap := T.keep _ _ _ st2 fun b _ o e => k3 b o e
  have I4 := block_start I3 ok hN f3
  show codeAny _ _ (.compStart (c.ex (⟨tg, iter, ifs, 0⟩ :: rest) scope pos) 0 (.ref it) (.ref D) (compEnvC scope (cellsFrom (s3.heap.objs.size + 1) scope.names (cloFrom X.env.cells scope.names [])) s3.heap.objs.size X.env))
    (compEnds (model X.prog X.w) X.A X.xe use Qf (.ref D) (compEnvC scope (cellsFrom (s3.heap.objs.size + 1) scope.names (cloFrom X.env.cells scope.names [])) s3.heap.objs.size X.env)) { s3 with heap := pushCells (s3.heap.push { cls := .type "dict", data := .dict #[] }) scope.names }
  have tks := blk_takes (scope := scope) (ce := compEnvC scope (cellsFrom (s3.heap.objs.size + 1) scope.names (cloFrom X.env.cells scope.names [])) s3.heap.objs.size X.env) st th I3 f3 rfl rfl
  have st' : StkAt (blkX X s3 (upd H2 D (c.ho X.w D)) scope (compEnvC scope (cellsFrom (s3.heap.objs.size + 1) scope.names (cloFrom X.env.cells scope.names [])) s3.heap.objs.size X.env) fp) L := st
  have lk : LkB X s3 (upd H2 D (c.ho X.w D)) fp := ⟨⟨_, _, I3⟩, fun b hb => (f3 b hb).1.2.2.2.1⟩
  have pg := hg s3 (upd H2 D (c.ho X.w D)) s3.heap.objs.size _ fp tks.1 tks.2 st' lk
  have pt := ht s3 (upd H2 D (c.ho X.w D)) s3.heap.objs.size _ fp tks.1 tks.2 st' lk
  have pb := hb s3 (upd H2 D (c.ho X.w D)) s3.heap.objs.size _ fp tks.1 tks.2 st' lk D
  generalize hce : compEnvC scope (cellsFrom (s3.heap.objs.size + 1) scope.names (cloFrom X.env.cells scope.names [])) s3.heap.objs.size X.env = ce at I4 pg pt pb ⊢
  have cL : ce.locals = s3.heap.objs.size := by subst hce; rfl
  generalize hH3 : upd H2 D (c.ho X.w D) = H3 at I3 I4 pg pt pb w0 f3
  generalize hs4 : ({ s3 with heap := pushCells (s3.heap.push { cls := .type "dict", data := .dict #[] }) scope.names } : Shared) = s4 at I4 ⊢
  have st4 : tn 0 s4.heap := T.keep _ _ _ st3 fun b _ o e => by rw [← hs4]; exact pushCells_keeps _ _ _ _ (Heap.get?_push_of_some _ e)
  have I5 : Inv (blkX X s3 H3 scope ce fp) [] (L2.wipe σ (own.map (·.2))) H3 s4 := EV.Inv.out I4
  have sta : ∀ H' : Hp, (∀ b ∈ fp, H' b = none) → ∀ b ∈ fp, FpOk (blkX X s3 H3 scope ce fp) [] H' b := fun H' n b hb =>
    ⟨n b hb, (I5.ok.exf b hb).1, I5.ok.exfs b hb, .inl hb, fun x c e => (I5.ok.exf b hb).2 x c e, fun p hp => absurd (show p ∈ ([] : List (Addr × Obj)) ++ [] from hp) (by simp)⟩
  have loop : codeAny (model X.prog X.w) X.A (.compLoop (c.ex (⟨tg, iter, ifs, 0⟩ :: rest) scope pos) 0 (.ref it) (.ref D) ce) (compEnds (model X.prog X.w) X.A X.xe use Qf (.ref D) ce) s4 := by
    refine loop_run (X := blkX X s3 H3 scope ce fp) (R := compEnds (model X.prog X.w) X.A X.xe use Qf (.ref D) ce) hc rfl (h0 ce) pg pt pb hsub T sta turn (fun s' H' I' q => ?_) (fun e s' x => ?_) I5 st4 (fun b hb => (f3 b hb).1.1) w0
    · have I7 : Inv X pins σ H' s' := I3.call' (ch := fp) I'.os I'.base I'.hok I'.bare fun b hb => ⟨(f3 b hb).1.2.2.2.1, (f3 b hb).1.2.1, (f3 b hb).1.2.2.2.2.1, (f3 b hb).1.2.2.2.2.2⟩
      obtain ⟨m, hn, _⟩ := I'.loc
      have nC : H' ce.locals = none := I'.free
      exact hRR D ce s' m H' I7 q hn (I3.fpOk (Nat.le_of_eq cL.symm) nC)
    · have e1 : (fun e s' => compEnds (model X.prog X.w) X.A X.xe use Qf (.ref D) ce (.error e) s') = CompFails (model X.prog X.w) X.A X.xe ce := by
        cases use <;> rfl
      show notedBy _ _ _ (fun e s' => compEnds (model X.prog X.w) X.A X.xe use Qf (.ref D) ce (.error e) s') e s'
      rw [e1]
      exact x
  exact start_at rfl loop (T.self X.A 0 _ _ _ st4 loop)
end
def tComp (c : CK) (w : World) (wi : TI) (g : TG) (tt : TT) (bt : Addr → TB) (vs : List Nat) : TE := fun σ H Q => wi σ H fun J H1 => ∀ D, H1 D = none → ∃ Wm : Nat → Nat → Hp → Prop, (∃ m, Wm 0 m (upd H1 D (c.ho w D))) ∧ Turns J g tt (bt D) vs σ (fun H' => Q (.ref D) H') Wm
end EV
namespace EV
open PySem PySem.Spec PyProof.Rows L2
abbrev FB := Nat → Rho → Hpe → Res Unit
def loopC (g : FG) (t : FT) (body : Rho → Hpe → Res Unit) (src : Src) (ρ : Rho) : Nat → Nat → Hpe → Res Unit
  | 0, _, _ => .no
  | k + 1, i, h => match src h i with
    | none => .no
    | some none => .ok () h
    | some (some w) => match g w ρ h with
      | .nx ρ' h1 => (t ρ' h1).bind fun b h2 => bif b then (body ρ' h2).bind fun _ h3 => loopC g t body src ρ k (i + 1) h3 else loopC g t body src ρ k (i + 1) h2
      | _ => .no
def toU {α : Type} (r : Res α) : Res Unit := r.bind fun _ h => .ok () h
def moreL (fe : FE) : FB := fun n ρ h => (fe ρ h).bind fun y h1 => toU (mApp (.ref n) [y] h1)
def eComp (acc : Ob) (fi : FI) (g : FG) (t : FT) (body : FB) (vs : List Nat) : FE := fun ρ h => (fi ρ h).bind fun src h1 => (h1.al acc).bind fun d h2 => match d with
  | .ref n => (loopC g t (body n) src (wipeR ρ vs) 1000000 0 h2).bind fun _ h3 => .ok (.ref n) h3
  | _ => .no
abbrev RU : (Nat → Addr) → Nat → Hp → Unit → Unit → Prop := fun _ _ _ _ _ => True
def tB (G : GC) (cf : CF) (cl : Cls) (Wk : XK) (D : Addr) (body : FB) : TB := fun σ H Q => ∃ n m h ρ, SS G cf m h ρ σ H ∧ n < h.nx ∧ m n = D ∧ Out G cl RU Wk m h H (body n ρ h) fun _ H' => Q H'
section
variable {G : GC} {cf : CF} {cl : Cls} {Wk : XK} {m m1 : Nat → Addr} {h h1 : Hpe} {H H1 : Hp} {ρ : Rho} {σ : L2.St} {n : Nat} {D : Addr}
theorem ItS.mv {src : Src} {J : It} (i : ItS G m h.nx H src J) (rh : RH G m h H) (mv : Mv m h.nx H m1 h1.nx H1) : ItS G m1 h1.nx H1 src J := fun m' h' H' k r o l t kf =>
  i m' h' H' k r (fun j hj => (o j (Nat.lt_of_lt_of_le hj mv.le)).trans (mv.old j hj)) (Nat.le_trans mv.le l) (TupK.trans (mv.tupk rh) t) fun j hj ob u e => by
    have z := kf j (Nat.lt_of_lt_of_le hj mv.le) ob u (by rw [mv.old j hj]; exact mv.kf j hj ob u e)
    rwa [mv.old j hj] at z
abbrev Bk (G : GC) (cf : CF) (cl : Cls) (Wk : XK) : Bx := ⟨G, cl, fun c d _ H => Wk c d H, cf⟩
theorem turns_ok {J : It} {src : Src} {g : FG} {ft : FT} {body : FB} {us vs : List Nat} {K : Nat} {Q : Hp → Prop} (hvs : ∀ i ∈ us, i ∈ vs) (s1 : SS G cf m1 h1 ρ σ H1) (hn : n < h1.nx) (hD : m1 n = D) (its : ItS G m1 h1.nx H1 src J)
    (o : Out G cl RU Wk m1 h1 H1 (loopC g ft (body n) src (wipeR ρ vs) K 0 h1) fun _ H' => Q H') :
    ∃ W : Nat → Nat → Hp → Prop, (∃ k, W 0 k H1) ∧ Turns J (tG (Bk G cf cl Wk) g us) (tT G cf cl (Bk G cf cl Wk).W ft) (tB G cf cl Wk D body) vs σ Q W := by
  refine ⟨fun i k H' => ∃ m' h', RH G m' h' H' ∧ Mv m1 h1.nx H1 m' h'.nx H' ∧ Out G cl RU Wk m' h' H' (loopC g ft (body n) src (wipeR ρ vs) k i h') fun _ H' => Q H', ⟨K, m1, h1, s1.rh, Mv.refl, o⟩, ?_⟩
  rintro i k H' ⟨m2, h2, r2, v2, o2⟩
  cases k with
  | zero => exact o2.elim
  | succ k =>
    obtain ⟨i1, i2⟩ := its m2 h2 H' i r2 v2.old v2.le (v2.tupk s1.rh) v2.kf
    simp only [loopC] at o2
    cases c : src h2 i with
    | none => rw [c] at o2; exact o2.elim
    | some c' =>
      rw [c] at o2
      cases c' with
      | none =>
        have o2 : Out G cl RU Wk m2 h2 H' (.ok () h2) fun _ H' => Q H' := o2
        exact .inl ⟨i1 c, o2 m2 H' () r2 Mv.refl trivial⟩
      | some w =>
        obtain ⟨go, yl⟩ := i2 w c
        refine .inr ⟨go, fun H3 => ∃ m' h', RH G m' h' H3 ∧ Mv m1 h1.nx H1 m' h'.nx H3 ∧ Out G cl RU Wk m' h' H3 (loopC g ft (body n) src (wipeR ρ vs) k (i + 1) h') fun _ H' => Q H', fun H3 z => ⟨k, Nat.lt_succ_self k, z⟩, fun x H3 y => ?_⟩
        obtain ⟨r3, v3, q3⟩ := yl x H3 y
        have t3 : Mv m1 h1.nx H1 m2 h2.nx H3 := v2.trans (r2.mv_ne v2) v3
        have s3 : SS G cf m2 h2 (wipeR ρ vs) (L2.wipe σ vs) H3 := ((s1.mv r2 v2).mv r3 v3).wipe vs
        refine ⟨m2, h2, wipeR ρ vs, w, s3, q3, ?_⟩
        cases cg : g w (wipeR ρ vs) h2 with
        | nx ρ4 h4 =>
          simp only [cg] at o2
          intro m4 H4 σ4 s4 v4 oth
          have t4 : Mv m1 h1.nx H1 m4 h4.nx H4 := t3.trans (r3.mv_ne t3) v4
          have o4 := Out.shift r2 s4.rh (v3.trans (r3.mv_ne v3) v4) o2
          refine ⟨by rw [(oth.sub hvs).wipe, DL.wipe_wipe], m4, h4, ρ4, s4, (Out.bind s4.rh o4).mono fun b H5 ⟨b', m5, h5, r5, v5, eb, o5⟩ => ?_⟩
          obtain rfl : b' = b := eb
          have t5 : Mv m1 h1.nx H1 m5 h5.nx H5 := t4.trans (s4.rh.mv_ne t4) v5
          cases b' with
          | false => rw [if_neg Bool.false_ne_true]; exact ⟨m5, h5, r5, t5, o5⟩
          | true =>
            rw [if_pos rfl]
            have hn5 : n < h5.nx := Nat.lt_of_lt_of_le hn t5.le
            refine ⟨n, m5, h5, ρ4, s4.mv r5 v5, hn5, (t5.old n hn).trans hD, (Out.bind r5 o5).mono fun _ H6 ⟨_, m6, h6, r6, v6, _, o6⟩ => ?_⟩
            exact ⟨m6, h6, r6, t5.trans (r5.mv_ne t5) v6, o6⟩
        | ex _ _ _ => simp only [cg] at o2; exact o2.elim
        | no => simp only [cg] at o2; exact o2.elim
        | rt _ _ => simp only [cg] at o2; exact o2.elim
        | bk _ _ => simp only [cg] at o2; exact o2.elim
        | ct _ _ => simp only [cg] at o2; exact o2.elim
theorem toU_ok {r : Res W} {Q : Hp → Prop} (rh : RH G m h H) (o : Out G cl RU Wk m h H (toU r) fun _ H' => Q H') : Out G cl (RW G) Wk m h H r fun _ H' => Q H' := (Out.bind rh o).mono fun _ H1 ⟨_, m1, h1, r1, _, _, o1⟩ => o1 m1 H1 () r1 Mv.refl trivial
theorem moreL_ok {fe : FE} {Q : Hp → Prop} (i0 : tB G cf cl Wk D (moreL fe) σ H Q) : tMoreL (tE G cf cl (Bk G cf cl Wk).W fe) D σ H Q := by
  obtain ⟨n, m, h, ρ, s, hn, hD, o⟩ := i0
  refine ⟨m, h, ρ, s, (Out.bind s.rh o).mono fun v H1 ⟨y, m1, h1, r1, v1, q1, o1⟩ => ?_⟩
  have o2 := toU_ok r1 o1
  have hn1 : n < h1.nx := Nat.lt_of_lt_of_le hn v1.le
  have hD1 : m1 n = D := (v1.old n hn).trans hD
  obtain ⟨a, xs, u, e1, e2, e3, e4, q⟩ := ms_app.2 cl Wk m1 h1 H1 (.ref n) [y] (.ref (m1 n)) [v] _ r1 (.ref n hn1) (.cons q1 .nil) o2
  cases e1
  cases e2
  rw [hD1] at e3 q
  exact ⟨xs, e3, e4, q⟩
end
section
variable {Y : Cx} {B : Bx} {Wk : XK} {c : CK} {gens : List Comprehension} {scope : Scope} {pos : Pos} {j : Nat} {tg iter e k v : Expr} {ifs : List Expr} {fi : FI} {g : FG} {ft : FT} {fe fk fv : FE} {body : FB} {us vs vsI : List Nat}
def SBd (Y : Cx) (G : GC) (cf : CF) (cl : Cls) (Wk : XK) (c : CK) (gens : List Comprehension) (scope : Scope) (pos : Pos) (j : Nat) (body : FB) (vs : List Nat) : Prop := ∀ D, PBd Y c gens scope pos j D (tB G cf cl Wk D body) vs
theorem pbd_imp {D : Addr} {bt bt' : TB} (h : PBd Y c gens scope pos j D bt vs) (i : ∀ σ H Q, bt' σ H Q → bt σ H Q) : PBd Y c gens scope pos j D bt' vs := ⟨fun pins s σ H Q NE I q x => h.run pins s σ H Q NE I (i σ H Q q) x⟩
variable {G : GC} {cf : CF} {cl : Cls}
theorem sb_l (hn : gens[j + 1]? = none) (he : SE Y (Bk G cf cl Wk) e fe) : SBd Y G cf cl Wk (.lst e) gens scope pos j (moreL fe) [] := fun D => pbd_imp (more_l hn he) fun _ _ _ z => moreL_ok z
end
section
variable {X : Cx} {B : Bx} {c : CK} {rest : List Comprehension} {scope : Scope} {pos : Pos} {tg iter : Expr} {ifs : List Expr} {fi : FI} {g : FG} {ft : FT} {body : FB} {us vsI : List Nat} {own : List (Str × Nat)} {L : Addr}
def CK.ob (c : CK) : Ob := match c with
  | .lst _ => .lst []
  | .set _ => .st []
  | .dct _ _ => .dk []
theorem CK.ro (c : CK) {G : GC} {m : Nat → Addr} {n : Nat} {H : Hp} (p : Addr) : RO G m n H p c.ob (c.ho G.wo p) := by
  cases c with
  | lst _ => exact .lst .nil
  | set _ => exact .st rfl (fun _ z => nomatch z) .nil
  | dct _ _ => exact .dk (kus := []) rfl .nil
theorem comp_ok {σ : L2.St} {H : Hp} {Q : VK} (hw : X.w = B.G.wo) (hus : ∀ i ∈ us, i ∈ own.map (·.2)) (i0 : tE B.G B.cf B.cl B.W (eComp c.ob fi g ft body (own.map (·.2))) σ H Q) :
    tComp c X.w (tI B fi) (tG (Bk B.G B.cf B.cl fun c d H' => B.W c d σ H') g us) (tT B.G B.cf B.cl (fun c d _ H' => B.W c d σ H') ft) (fun D => tB B.G B.cf B.cl (fun c d H' => B.W c d σ H') D body) (own.map (·.2)) σ H Q := by
  obtain ⟨m, h, ρ, s, o⟩ := i0
  refine ⟨m, h, ρ, s, (Out.bind s.rh o).mono fun J H1 ⟨src, m1, h1, r1, v1, its, o1⟩ D hD => ?_⟩
  have k1 : Out B.G B.cl (RW B.G) (fun c d H' => B.W c d σ H') m1 h1 H1 (h1.al c.ob) fun d H2 => ∃ dw m2 h2, RH B.G m2 h2 H2 ∧ Mv m1 h1.nx H1 m2 h2.nx H2 ∧ RW B.G m2 h2.nx H2 dw d ∧ Out B.G B.cl (RW B.G) (fun c d H' => B.W c d σ H') m2 h2 H2 (match dw with
      | .ref n => (loopC g ft (body n) src (wipeR ρ (own.map (·.2))) 1000000 0 h2).bind fun _ h3 => .ok (.ref n) h3
      | _ => .no) Q := Out.bind r1 o1
  obtain ⟨dw, m2, h2, r2, v2, q2, o2⟩ := al_okA r1 k1 (fun p => c.ro p) D hD
  rw [hw]
  cases dw with
  | ref n =>
    obtain ⟨eD, hn⟩ := rw_ref q2
    have eD : D = m2 n := V.ref.inj eD
    have o3 : Out B.G B.cl RU (fun c d H' => B.W c d σ H') m2 h2 _ (loopC g ft (body n) src (wipeR ρ (own.map (·.2))) 1000000 0 h2) fun _ H' => Q (.ref D) H' :=
      (Out.bind r2 o2).mono fun _ H3 ⟨_, m3, h3, r3, v3, _, o3⟩ => by
        have z := o3 m3 H3 (.ref (m3 n)) r3 Mv.refl (.ref n (Nat.lt_of_lt_of_le hn v3.le))
        rw [v3.old n hn, ← eD] at z
        exact z
    exact turns_ok hus ((s.mv r1 v1).mv r2 v2) hn eD.symm (its.mv r1 v2) o3
  | _ => exact o2.elim
theorem se_comp (hw : X.w = B.G.wo) (hc : X.calm = true) (hN : X.N.Nodup) (st : StkAt X L) (th : TakesH X L B.W) (hi : SI X B tg iter fi) (ok : BlkOk X.N X.env.scope scope own) (h0 : ∀ env, GensOk (⟨tg, iter, ifs, 0⟩ :: rest) env 0)
    (hg : ∀ Wk : XK, InBlk X scope L (fun c d _ H => Wk c d H) fun Y => SG Y (Bk B.G B.cf B.cl Wk) tg g us) (ht : ∀ Wk : XK, InBlk X scope L (fun c d _ H => Wk c d H) fun Y => STs Y (Bk B.G B.cf B.cl Wk) ifs ft)
    (hb : ∀ Wk : XK, InBlk X scope L (fun c d _ H => Wk c d H) fun Y => SBd Y B.G B.cf B.cl Wk c (⟨tg, iter, ifs, 0⟩ :: rest) scope pos 0 body vsI) (hus : ∀ i ∈ us, i ∈ own.map (·.2)) (hsub : ∀ i ∈ vsI, i ∈ own.map (·.2)) (hs : ∀ x, foldedSetIterable iter X.env x = pure x) :
    SE X B (c.ex (⟨tg, iter, ifs, 0⟩ :: rest) scope pos) (eComp c.ob fi g ft body (own.map (·.2))) := by
  refine ⟨fun pins s σ H Q I i0 => ?_⟩
  have e : eval (c.ex (⟨tg, iter, ifs, 0⟩ :: rest) scope pos) X.env = comprehension (c.ex (⟨tg, iter, ifs, 0⟩ :: rest) scope pos) scope X.env (firstIterPos (⟨tg, iter, ifs, 0⟩ :: rest) pos) c.new false (eval iter X.env) := by cases c <;> rfl
  rw [e]
  refine comp_core hc hN I hi ok st th hs h0 (hg fun c d H' => B.W c d σ H') (ht fun c d H' => B.W c d σ H') (fun s H C cl fp t1 t2 t3 t4 D => hb (fun c d H' => B.W c d σ H') s H C cl fp t1 t2 t3 t4 D) hsub (comp_ok (X := X) hw hus i0) fun D ce s' m H' I' q hn f => ⟨m, hn, fun h'' sb => ?_⟩
  obtain ⟨f0, f1, f2, f3, f4, f5⟩ := f
  exact ⟨.ref D, H', I'.turned (t' := s'.toks) (fun b o hb e => (sb.2 b hb).trans e) f0 f1 f3 f4 f5, rfl, q⟩
end
end EV
namespace EV
open PySem PySem.Spec PyProof.Rows L2
def GO (env : Env) : List Comprehension → Prop
  | [] => True
  | g :: gs => (g.is_async = 0 ∧ ∀ x, foldedSetIterable g.iter env x = pure x) ∧ GO env gs
theorem go_get {env : Env} : ∀ {l : List Comprehension} {j : Nat} {g : Comprehension}, GO env l → l[j]? = some g → g.is_async = 0 ∧ ∀ x, foldedSetIterable g.iter env x = pure x
  | [], _, _, _, e => by simp at e
  | a :: l, 0, g, x, e => by
    have e : some a = some g := e
    cases e
    exact x.1
  | a :: l, j + 1, g, x, e => go_get (l := l) (j := j) x.2 e
theorem go {gens : List Comprehension} {env : Env} {j : Nat} (h : GO env (gens.drop (j + 1))) : GensOk gens env j := fun g e => go_get (j := 0) h (by rw [List.getElem?_drop]; exact e)
theorem sw_comp {c : CK} {gens : List Comprehension} {scope : Scope} {pos py : Pos} {y : Str} {l : Nat} {env : Env} (hk : env.scope.kind = .function) (hy : env.scope.names.lookup y = some .local) (hl : (py.line == pos.line) = true)
    (ha : (scope.names.any fun (n, k) => n == y && (k == .local || k == .cell)) = false) : swapsWith (c.ex gens scope pos) (some (.Name y py)) l env = pure true := by
  have ky : env.kindOf y = some .local := hy
  have hb : env.blockKind = .function := by unfold Env.blockKind; rw [hk]; rfl
  cases c <;> (unfold swapsWith CK.ex; simp only [hb, ky, ha, Expr.pos, hl]; rfl)
section
variable {X : Cx} {B : Bx} {c : CK} {rest : List Comprehension} {scope : Scope} {pos spos py : Pos} {tg iter : Expr} {ifs : List Expr} {fi : FI} {g : FG} {ft : FT} {body : FB} {us vsI : List Nat} {own : List (Str × Nat)} {L : Addr} {i : Nat} {y : Str}
theorem ss_comp (hw : X.w = B.G.wo) (hc : X.calm = true) (hN : X.N.Nodup) (hy : X.N[i]? = some y) (hyl : X.env.scope.names.lookup y = some .local) (hsw : swapsWith (c.ex (⟨tg, iter, ifs, 0⟩ :: rest) scope pos) (some (.Name y py)) spos.line X.env = pure true)
    (st : StkAt X L) (th : TakesH X L B.W) (hi : SI X B tg iter fi) (ok : BlkOk X.N X.env.scope scope own) (h0 : ∀ env, GensOk (⟨tg, iter, ifs, 0⟩ :: rest) env 0)
    (hg : ∀ Wk : XK, InBlk X scope L (fun c d _ H => Wk c d H) fun Y => SG Y (Bk B.G B.cf B.cl Wk) tg g us) (ht : ∀ Wk : XK, InBlk X scope L (fun c d _ H => Wk c d H) fun Y => STs Y (Bk B.G B.cf B.cl Wk) ifs ft)
    (hb : ∀ Wk : XK, InBlk X scope L (fun c d _ H => Wk c d H) fun Y => SBd Y B.G B.cf B.cl Wk c (⟨tg, iter, ifs, 0⟩ :: rest) scope pos 0 body vsI) (hus : ∀ i ∈ us, i ∈ own.map (·.2)) (hsub : ∀ i ∈ vsI, i ∈ own.map (·.2)) (hs : ∀ x, foldedSetIterable iter X.env x = pure x) :
    SSt X B (.Assign [.Name y py] (c.ex (⟨tg, iter, ifs, 0⟩ :: rest) scope pos) spos) (sAs (eComp c.ob fi g ft body (own.map (·.2))) (gN i)) := by
  refine ⟨fun pins s σ H D I i0 => ?_⟩
  rw [exec_Assign_Name_used _ _ _ _ hsw]
  refine wpAny_bind (wpAny_standAt (wpAny_bind ?_))
  have e : evalThenUse (c.ex (⟨tg, iter, ifs, 0⟩ :: rest) scope pos) X.env (assign (.Name y py) X.env) = (do let _ ← comprehension (c.ex (⟨tg, iter, ifs, 0⟩ :: rest) scope pos) scope X.env (firstIterPos (⟨tg, iter, ifs, 0⟩ :: rest) pos) c.new false (eval iter X.env) (some (assign (.Name y py) X.env))) := by cases c <;> rfl
  rw [e]
  obtain ⟨m, h, ρ, ss, o⟩ := i0
  have i1 : tE B.G B.cf B.cl B.W (eComp c.ob fi g ft body (own.map (·.2))) σ H (fun x H1 => gName i x σ H1 D.nx) := ⟨m, h, ρ, ss, (OutS.bind ss o).mono fun v H1 ⟨w, m1, h1, r1, v1, q1, o1⟩ => o1 m1 H1 _ (by first | exact (ss.mv r1 v1).set q1 i | (rw [setR_eq]; exact (ss.mv r1 v1).set q1 i)) Mv.refl⟩
  refine wpAny_bind (thn (comp_core (Qf := fun _ s' => SP X pins D .next s') hc hN I hi ok st th hs h0 (hg fun c d H' => B.W c d σ H') (ht fun c d H' => B.W c d σ H') (fun s H C cl fp t1 t2 t3 t4 D => hb (fun c d H' => B.W c d σ H') s H C cl fp t1 t2 t3 t4 D) hsub (comp_ok (X := X) hw hus i1) fun D2 ce s' m H' I' q hn f => ?_) fun _ s' hq => wpAny_pure (wpAny_pure hq))
  show wpAny _ _ (assign (.Name y py) X.env (.ref D2)) _ _ _
  refine wpAny_assign_Name (store_ok2 (v := V.ref D2) I' hN hy (.inl hyl) rfl (fun s2 I2 ⟨a, sb, ha⟩ => ?_) (.inr hyl))
  obtain ⟨f0, f1, f2, f3, f4, f5⟩ := f
  have haC : ce.locals ≠ a := by
    rcases ha with z | z
    · rw [z]; exact f1
    · exact fun e => f4 y a z e.symm
  refine ⟨m, hn.sameBut sb haC, fun h3 sb3 => ?_⟩
  exact ⟨_, H', I2.turned (t' := s2.toks) (fun b o hb e => (sb3.2 b hb).trans e) f0 f1 f3 f4 f5, q⟩
theorem se_compL {e : Expr} (hw : X.w = B.G.wo) (hc : X.calm = true) (hN : X.N.Nodup) (st : StkAt X L) (th : TakesH X L B.W) (hi : SI X B tg iter fi) (ok : BlkOk X.N X.env.scope scope own) (h0 : ∀ env, GO env rest)
    (hg : ∀ Wk : XK, InBlk X scope L (fun c d _ H => Wk c d H) fun Y => SG Y (Bk B.G B.cf B.cl Wk) tg g us) (ht : ∀ Wk : XK, InBlk X scope L (fun c d _ H => Wk c d H) fun Y => STs Y (Bk B.G B.cf B.cl Wk) ifs ft)
    (hb : ∀ Wk : XK, InBlk X scope L (fun c d _ H => Wk c d H) fun Y => SBd Y B.G B.cf B.cl Wk (.lst e) (⟨tg, iter, ifs, 0⟩ :: rest) scope pos 0 body vsI) (hus : ∀ i ∈ us, i ∈ own.map (·.2)) (hsub : ∀ i ∈ vsI, i ∈ own.map (·.2)) (hs : ∀ x, foldedSetIterable iter X.env x = pure x) :
    SE X B (.ListComp e (⟨tg, iter, ifs, 0⟩ :: rest) scope pos) (eComp (.lst []) fi g ft body (own.map (·.2))) := se_comp (c := .lst e) hw hc hN st th hi ok (fun env => go (h0 env)) hg ht hb hus hsub hs
theorem ss_compL {e : Expr} (hw : X.w = B.G.wo) (hc : X.calm = true) (hN : X.N.Nodup) (hy : X.N[i]? = some y) (hyl : X.env.scope.names.lookup y = some .local) (hk : X.env.scope.kind = .function) (hl : (py.line == pos.line) = true) (ha : (scope.names.any fun (n, k) => n == y && (k == .local || k == .cell)) = false) (st : StkAt X L) (th : TakesH X L B.W) (hi : SI X B tg iter fi) (ok : BlkOk X.N X.env.scope scope own) (h0 : ∀ env, GO env rest)
    (hg : ∀ Wk : XK, InBlk X scope L (fun c d _ H => Wk c d H) fun Y => SG Y (Bk B.G B.cf B.cl Wk) tg g us) (ht : ∀ Wk : XK, InBlk X scope L (fun c d _ H => Wk c d H) fun Y => STs Y (Bk B.G B.cf B.cl Wk) ifs ft)
    (hb : ∀ Wk : XK, InBlk X scope L (fun c d _ H => Wk c d H) fun Y => SBd Y B.G B.cf B.cl Wk (.lst e) (⟨tg, iter, ifs, 0⟩ :: rest) scope pos 0 body vsI) (hus : ∀ i ∈ us, i ∈ own.map (·.2)) (hsub : ∀ i ∈ vsI, i ∈ own.map (·.2)) (hs : ∀ x, foldedSetIterable iter X.env x = pure x) :
    SSt X B (.Assign [.Name y py] (.ListComp e (⟨tg, iter, ifs, 0⟩ :: rest) scope pos) spos) (sAs (eComp (.lst []) fi g ft body (own.map (·.2))) (gN i)) := ss_comp (c := .lst e) hw hc hN hy hyl (sw_comp hk hyl hl ha) st th hi ok (fun env => go (h0 env)) hg ht hb hus hsub hs
end
end EV
namespace EV
open PySem PySem.Spec PyProof.Rows L2
def JsOk (ts : List TE) : Prop := ∀ (σ : L2.St) (H : Hp) (Q : Str → Hp → Prop) (i : Int), i.natAbs.log2 < 1920 → σ[1]? = some (some (.int i)) → (∀ out, Q out H) → tJs ts Str.empty σ H Q
theorem jsOk2 {a : Str} (ha : a.length ≤ 1000) : JsOk [L2.tC (.str a), tFmt (tVar 1)] := fun _ _ _ _ hi hs q => (tJs_one (b := a) ha ha hi hs q).2
theorem jsOk3 {a b : Str} (ha : a.length ≤ 1000) (hb : b.length ≤ 1000) : JsOk [L2.tC (.str a), tFmt (tVar 1), L2.tC (.str b)] := fun _ _ _ _ hi hs q => (tJs_one ha hb hi hs q).1
def tIni (K : PySem.W.Frag) (newId : String) (bm : List Value) (fld : Str) (ts : List TE) : TS :=
  tSeq (tDrop (tBi K newId bm (tCons (tVar 0) (tCons (fun σ H Q => tJs ts Str.empty σ H fun out H1 => Q (.str out) H1) tNil)))) (tSeq (tOs1 K newId bm fld (tVar 0) (tVar 1)) tNext)
theorem ok_I {P : Program} {w : World} {K : PySem.W.Frag} {mg : Str → Option Value} {base : Heap} {qual p fld : Str} {st : Stmt} {fI C : Addr} {fd : FuncData} {newId : String} {bm : List Value} {ts : List TE}
    (F : Fun K "__init__" qual st fI fd) (S : FnScope ["self", p] ["self", p] (defScope st)) (T : OwnE K C newId bm) (hno : PySem.W.findIn K (.ref C) fld = some none) (ht : JsOk ts)
    (hbody : ∀ (cdv : Value) (A : Around) (outer : List PySem.Env) (s : Shared) (H : Hp) (E : XK), PSs (cxOf (L2.CX P w) P w K mg base ["self", p] qual (defScope st) fI cdv A outer s H E) (defBody st) (tIni K newId bm fld ts)) :
    FnOk P w K mg base (L2.CX P w) 1 fI fd ["self", p] (spI C fld) := by
  refine F.okX (k := 0) S (fun vs H Q E ⟨a, i, ev, _⟩ => by rw [ev]; rfl) (fun cdv A outer s H vs Q E hr ⟨a, i, ev, hi, ea, q⟩ => ⟨_, hbody cdv A outer s H E, ?_⟩)
  subst ev
  refine ⟨.ref a, rfl, ht _ _ _ i hi rfl fun out => ⟨a, C, [.str out], rfl, show 1 ≤ 1000 from by decide, T, ea, ?_⟩⟩
  exact ⟨.int i, rfl, .ref a, rfl, a, C, rfl, T, hno, ea, fun dx n ne => q dx n ne⟩
end EV
namespace EV
open PySem PySem.Spec PyProof.Rows L2
def BindsE (fd : FuncData) (ps : List Str) : Prop := ∀ us : List Value, us.length = ps.length → bindArgs fd ⟨us, []⟩ = pure (ps.zip us)
structure At (K : PySem.W.Frag) (mg : Str → Option Value) (n : Str) (st : Stmt) (ps : List Str) : Prop where
  ex : ∃ f fd, Fun K n n st f fd ∧ mg n = some (.ref f) ∧ BindsE fd ps
structure AtC (K : PySem.W.Frag) (mg : Str → Option Value) (n : Str) (st : Stmt) (ps : List Str) (c Pt : Addr) : Prop where
  ex : ∃ f fd, FunC K n n st f fd c ∧ PySem.W.keepIn K (.ref f) = true ∧ mg n = some (.ref f) ∧ BindsE fd ps
  tab : PySem.W.tabIn K n = some (c, Pt)
  no : K.lookup Pt = none
section
variable {P : Program} {w : World} {K : PySem.W.Frag} {mg : Str → Option Value} {base h : Heap} {G : GC} {cl : Cls} {n : Str} {st : Stmt} {ps ks : List Str} {k n0 : Nat} {π : List Nat} {g : List W → Hpe → Res W} {c Pt : Addr}
theorem at_mk {f : Addr} {oc kV doc pm cdv ct : Value} {od an : Option Addr} {osl : Array (Option Value)} (X : K.In h) (N : h.Ns mainGlobals mg) (a : PySem.W.nsIn K mainGlobals n = some (some (.ref f)))
    (l : K.lookup f = some ⟨oc, od, .func (PySem.W.fnOf n n (defArgs st) (defBody st) (defScope st) .none kV doc pm an cdv ct), osl⟩) (hc : PySem.W.codeIn K cdv n = true) (kp : PySem.W.keepIn K (.ref f) = true)
    (hb : ∀ (kV doc pm : Value) (an : Option Addr) (cdv ct : Value) (us : List Value), us.length = ps.length → bindArgs (PySem.W.fnOf n n (defArgs st) (defBody st) (defScope st) .none kV doc pm an cdv ct) ⟨us, []⟩ = pure (ps.zip us)) : At K mg n st ps :=
  ⟨f, _, fun_mk l hc kp, PySem.W.mg_of X N a, fun us hl => hb kV doc pm an cdv ct us hl⟩
theorem AtC.at (A : AtC K mg n st ps c Pt) : At K mg n st ps := by
  obtain ⟨f, fd, F, kp, m, b⟩ := A.ex
  obtain ⟨oc, od, kV, doc, pm, an, ct, osl, e, l, hc⟩ := F.ex
  subst e
  exact ⟨f, _, fun_mk l hc kp, m, b⟩
theorem no_ok {f : Addr} {fd : FuncData} : FnE P w K mg base k f fd ps G cl fun _ _ => .no :=
  ⟨fun A outer s H args us vs Q E _ _ _ _ ⟨m, h, ws, _, _, _, o⟩ => o.elim⟩
theorem At.dfe (A : At K mg n st ps) (ok : ∀ f fd, Fun K n n st f fd → FnE P w K mg base k f fd ps G cl g) : DfE P w K mg base G cl n ps k g := by
  obtain ⟨f, fd, F, m, b⟩ := A.ex
  exact ⟨f, fd, ok f fd F, m, F.kp, .all b⟩
theorem AtC.dfe (A : AtC K mg n st ps c Pt) (ok : ∀ f fd, FunC K n n st f fd c → FnE P w K mg base k f fd ps G cl g) : DfE P w K mg base G cl n ps k g := by
  obtain ⟨f, fd, F, kp, m, b⟩ := A.ex
  exact ⟨f, fd, ok f fd F, m, kp, .all b⟩
end
end EV
namespace EV
open PySem PySem.Spec PyProof.Rows L2
def clOf (Cs : List Addr) : Cls := fun k => (Cs[k]?).map Value.ref
theorem clOf_at {Cs : List Addr} {k : Nat} {C : Addr} (e : Cs[k]? = some C) : clOf Cs k = some (.ref C) := by show (Cs[k]?).map Value.ref = _; rw [e]; rfl
theorem clOf_of {Cs : List Addr} {k : Nat} {c : Value} (e : clOf Cs k = some c) : ∃ D, c = .ref D ∧ Cs[k]? = some D := by
  have e : (Cs[k]?).map Value.ref = some c := e
  cases q : Cs[k]? with
  | none => rw [q] at e; cases e
  | some D => rw [q] at e; cases e; exact ⟨D, rfl, rfl⟩
def AllX (K : PySem.W.Frag) (C : Addr) (k : Nat) : List Addr → Nat → Prop
  | [], _ => True
  | D :: Ds, j => PySem.W.subIn K (.ref D) (.ref C) = some (Nat.beq j k) ∧ AllX K C k Ds (j + 1)
theorem allX_at {K : PySem.W.Frag} {C D : Addr} {k : Nat} : ∀ {Ds : List Addr} {j i : Nat}, AllX K C k Ds j → Ds[i]? = some D → PySem.W.subIn K (.ref D) (.ref C) = some (Nat.beq (j + i) k)
  | [], _, _, _, e => by simp at e
  | a :: Ds, j, 0, x, e => by
    have e : some a = some D := e
    cases e
    exact x.1
  | a :: Ds, j, i + 1, x, e => by
    have z := allX_at (Ds := Ds) (j := j + 1) (i := i) x.2 e
    rwa [show j + 1 + i = j + (i + 1) by omega] at z
section
variable {P : Program} {w : World} {K : PySem.W.Frag} {mg : Str → Option Value} {base h : Heap} {Cs : List Addr} {C : Addr} {k : Nat} {x f : Str}
theorem exE_mk {Bn newId initId : String} {bmB : List Value} (X : K.In h) (N : h.Ns mainGlobals mg) (hC : Cs[k]? = some C) (F : ExcBaseFacts Bn newId initId bmB) (a : PySem.W.nsIn K mainGlobals x = some (some (.ref C))) (xc : PySem.W.excIn K C bmB newId = true)
    (kp : PySem.W.keepIn K (.ref C) = true) (sb : PySem.W.subIn K (.ref C) (.type "BaseException") = some true) (ty : PySem.W.typeIn K (.ref C) = some (.type "type")) : ExE K mg (clOf Cs) x k :=
  ⟨⟨C, bmB, Bn, newId, initId, F, xc, PySem.W.mg_of X N a, clOf_at hC, kp, sb, ty⟩⟩
theorem exN_mk (X : K.In h) (N : h.Ns mainGlobals mg) (hC : Cs[k]? = some C) (a : PySem.W.nsIn K mainGlobals x = some (some (.ref C))) (sb : PySem.W.subIn K (.ref C) (.type "BaseException") = some true) (hd : PySem.W.hasDictIn K C = true) (ty : PySem.W.typeIn K (.ref C) = some (.type "type")) (all : AllX K C k Cs 0) : ExN K mg (clOf Cs) x k :=
  ⟨⟨_, PySem.W.mg_of X N a, clOf_at hC⟩, fun j c c' e1 e2 => by
    obtain ⟨D, rfl, hD⟩ := clOf_of e1
    have e3 : c' = .ref C := Option.some.inj (e2.symm.trans (clOf_at hC))
    subst e3
    have z := allX_at all hD
    rw [Nat.zero_add] at z
    exact PySem.W.exm_ref sb hd ty z⟩
theorem exV_mk (hC : Cs[k]? = some C) (E : ExcC K C) : ExV K (clOf Cs) k := ⟨fun c e => ⟨C, Option.some.inj (e.symm.trans (clOf_at hC)), E⟩⟩
theorem cls_is {p : Addr → Prop} (hC : Cs[k]? = some C) (h : p C) : ∀ D, clOf Cs k = some (.ref D) → p D := fun D e => by
  have z : (Value.ref D : Value) = .ref C := Option.some.inj (e.symm.trans (clOf_at hC))
  cases z
  exact h
theorem exI_mk {B newId initId : String} {bm : List Value} {fI : Addr} {fd : FuncData} {ps : List Str} (X : K.In h) (N : h.Ns mainGlobals mg) (hC : Cs[k]? = some C) (BE : BaseE B newId initId bm) (a : PySem.W.nsIn K mainGlobals x = some (some (.ref C))) (T : OwnE K C newId bm)
    (i : PySem.W.findIn K (.ref C) "__init__" = some (some (.ref fI))) (ty : PySem.W.typeIn K (.ref fI) = some (.type "function")) (F : FnOk P w K mg base (L2.CX P w) 1 fI fd ps (spI C f)) (b : BindsE fd ps) : ExI P w K mg base (clOf Cs) x f k :=
  ⟨⟨C, B, newId, initId, bm, fI, fd, ps, BE, T, PySem.W.mg_of X N a, clOf_at hC, i, ty, F, .all b⟩⟩
end
mutual
inductive KonV (K : PySem.W.Frag) : W → Value → Prop
  | non : KonV K .non .none
  | bl (b : Bool) : KonV K (.bl b) (.bool b)
  | int (i : Int) (t : Tok) : KonV K (.int i) (.int i t)
  | str (s : Str) (t : Tok) : KonV K (.str s) (.str s t)
  | tup {a : Addr} {o : Obj} {its : Array Value} {n : Nat} {ws : List W} : K.lookup a = some o → o.cls = .type "tuple" → o.data = .seq its n → its.size ≤ sizeLine → KonVs K ws its.toList → KonV K (.tup ws) (.ref a)
inductive KonVs (K : PySem.W.Frag) : List W → List Value → Prop
  | nil : KonVs K [] []
  | cons {w : W} {u : Value} {ws : List W} {us : List Value} : KonV K w u → KonVs K ws us → KonVs K (w :: ws) (u :: us)
end
def noLst (K : PySem.W.Frag) : Bool := K.all fun p => !(p.2.cls == .type "list")
theorem noLst_at {a : Addr} {o : Obj} : ∀ {K : PySem.W.Frag}, noLst K = true → K.lookup a = some o → o.cls ≠ .type "list"
  | [], _, e => by cases e
  | (b, u) :: K, h, e => fun z => by
    unfold noLst at h
    rw [List.all_cons, Bool.and_eq_true] at h
    rw [List.lookup_cons] at e
    cases q : a == b with
    | true =>
      rw [q] at e
      have e : some u = some o := e
      cases e
      rw [z] at h
      exact absurd h.1 (by decide)
    | false =>
      rw [q] at e
      exact noLst_at (K := K) h.2 e z
theorem ints_rws {G : GC} {m : Nat → Addr} {n : Nat} {H : Hp} : ∀ ns : List Int, RWs G m n H (ns.map W.int) (ns.map V.int)
  | [] => .nil
  | i :: ns => .cons (.int i) (ints_rws ns)
abbrev gcOf (K : PySem.W.Frag) (dfs : Nat → Option Addr) (cs ls : List (Addr × Addr)) (P : Program) (w : World) (nm : Nat → Nat → Str) (tx : Nat → Option CTx) (cc : Nat → Option Addr) : GC := ⟨K, dfs, cs.map (·.2), P, w, ls.map (·.2), nm, tx, cc⟩
def Says (g : List W → Hpe → Res W) : Prop := ∀ ns : List Int, ns.length ≤ 63 → ∀ o : Ob, o = .lst (ns.map W.int) ∨ o = .fz (ns.map W.int) → ∃ h', g [.ref 0] (Hpe.nil.new o) = .ok (.bl true) h'
theorem says_ok {K : PySem.W.Frag} {P : Program} {w : World} {cl : Cls} {dfs : Nat → Option Addr} {H : Hp} {a : Addr} {cs ls : List (Addr × Addr)} {nm : Nat → Nat → Str} {tx : Nat → Option CTx} {cc : Nat → Option Addr} {ns : List Int} {g : List W → Hpe → Res W} (hg : Says g) (nl : noLst K = true) (hT : ∀ p ∈ cs ++ ls, H p.2 = some (.tbl #[])) (hl : ns.length ≤ 63) (hS : SqL K H a (ns.map V.int)) :
    spE (gcOf K dfs cs ls P w nm tx cc) cl 1 g [.ref a] H (fun v _ => v = .bl true) fun _ _ _ => False := by
  obtain ⟨o, ho, eo, hH, ro⟩ : ∃ (o : Ob) (ho : HO), (o = .lst (ns.map W.int) ∨ o = .fz (ns.map W.int)) ∧ H a = some ho ∧ RO (gcOf K dfs cs ls P w nm tx cc) (fun _ => a) 1 H a o ho := by
    rcases hS with (q | ⟨ob, q⟩) | ⟨ob, its, n, l, c, _⟩
    · exact ⟨_, _, .inl rfl, q, .lst (ints_rws ns)⟩
    · exact ⟨_, _, .inr rfl, q, .fz (ints_rws ns)⟩
    · exact absurd c (noLst_at nl l)
  obtain ⟨h', eg⟩ := hg ns hl o eo
  refine ⟨fun _ => a, Hpe.nil.new o, [.ref 0], ⟨show 1 ≤ 1099511627776 from by decide, fun i j hi hj _ => ?_, fun i hi => ?_, fun q hq => ?_, fun q hq => ?_⟩, .cons (.ref 0 (show 0 < 1 from by decide)) .nil, rfl, ?_⟩
  · have hi : i < 1 := hi
    have hj : j < 1 := hj
    omega
  · have hi : i < 1 := hi
    obtain rfl : i = 0 := by omega
    exact ⟨o, ho, rfl, hH, ro⟩
  · obtain ⟨p, hp, rfl⟩ := List.mem_map.mp hq
    exact ⟨#[], hT p (List.mem_append_left _ hp), trivial⟩
  · obtain ⟨p, hp, rfl⟩ := List.mem_map.mp hq
    refine ⟨#[], hT p (List.mem_append_right _ hp), trivial, fun pos cv hc => ?_⟩
    have z : codeAmong pos [] = some cv := hc
    simp [codeAmong] at z
  · rw [eg]
    intro m' H' v rh mv r
    cases r
    rfl
end EV
namespace EV
open PySem PySem.Spec PyProof.Rows L2
def TabsOf (K : PySem.W.Frag) : List Str → List (Addr × Addr) → Prop
  | [], [] => True
  | x :: xs, p :: ps => (PySem.W.tabIn K x = some p ∧ K.lookup p.2 = none) ∧ TabsOf K xs ps
  | _, _ => False
theorem tabsOf_at {K : PySem.W.Frag} {p : Addr × Addr} : ∀ {xs : List Str} {ps : List (Addr × Addr)}, TabsOf K xs ps → p ∈ ps → ∃ x ∈ xs, PySem.W.tabIn K x = some p ∧ K.lookup p.2 = none
  | [], [], _, h => nomatch h
  | [], _ :: _, t, _ => t.elim
  | _ :: _, [], t, _ => t.elim
  | x :: xs, q :: ps, t, h => by
    rcases List.mem_cons.mp h with e | h
    · subst e
      exact ⟨x, List.mem_cons_self .., t.1⟩
    · obtain ⟨y, hy, z⟩ := tabsOf_at t.2 h
      exact ⟨y, List.mem_cons_of_mem _ hy, z⟩
def LawE (P : Program) (w : World) (K : PySem.W.Frag) (mg : Str → Option Value) (x : Str) (dfs : Nat → Option Addr) (cs ls : List (Addr × Addr)) (nm : Nat → Nat → Str) (tx : Nat → Option CTx) (cc : Nat → Option Addr) (cl : Cls) (g : List W → Hpe → Res W) (fa : Addr) : Prop :=
  ∃ fd, BindsE fd [x] ∧ ∀ base : Heap, K.In base → base.Ns mainGlobals mg → (∀ p ∈ cs ++ ls, GxR.TabB base mg p.1 p.2) → FnE P w K mg base 230 fa fd [x] (gcOf K dfs cs ls P w nm tx cc) cl g
section
variable {P : Program} {w : World} {K : PySem.W.Frag} {mg : Str → Option Value} {n x : Str} {st : Stmt} {dfs : Nat → Option Addr} {cs ls : List (Addr × Addr)} {nm : Nat → Nat → Str} {tx : Nat → Option CTx} {cc : Nat → Option Addr} {cl : Cls} {g : List W → Hpe → Res W} {fa c Pt : Addr}
theorem At.law (A : At K mg n st [x]) (hfa : mg n = some (.ref fa)) (ok : ∀ base : Heap, K.In base → base.Ns mainGlobals mg → (∀ p ∈ cs ++ ls, GxR.TabB base mg p.1 p.2) → ∀ f fd, Fun K n n st f fd → FnE P w K mg base 230 f fd [x] (gcOf K dfs cs ls P w nm tx cc) cl g) :
    LawE P w K mg x dfs cs ls nm tx cc cl g fa := by
  obtain ⟨f, fd, F, m, b⟩ := A.ex
  have e := hfa.symm.trans m
  cases e
  exact ⟨fd, b, fun base kb nb tb => ok base kb nb tb _ fd F⟩
theorem AtC.law (A : AtC K mg n st [x] c Pt) (hfa : mg n = some (.ref fa)) (ok : ∀ base : Heap, K.In base → base.Ns mainGlobals mg → (∀ p ∈ cs ++ ls, GxR.TabB base mg p.1 p.2) → ∀ f fd, FunC K n n st f fd c → FnE P w K mg base 230 f fd [x] (gcOf K dfs cs ls P w nm tx cc) cl g) :
    LawE P w K mg x dfs cs ls nm tx cc cl g fa := by
  obtain ⟨f, fd, F, kp, m, b⟩ := A.ex
  have e := hfa.symm.trans m
  cases e
  exact ⟨fd, b, fun base kb nb tb => ok base kb nb tb _ fd F⟩
end
theorem walk_E {l : PySem.W.OpenLaw} {q : Program} {loose : List Str} {XP : (Str → Option Value) → Heap → Prop} {YP : World → Heap → Prop} {d : DefRec} {K : Params → PySem.W.Frag} {x : Str} {names : List Str} {g : List W → Hpe → Res W}
    (hm : l.most = some 63) (hd0 : d.params.defaults = []) (hYK : ∀ (w : World) (h : Heap), YP w h → (K w.params).In h) (hq : (names.all fun y => ((recsOf q).find? fun e => e.name == y).isSome) = true) (nl : ∀ w : World, noLst (K w.params) = true) (hg : Says g)
    (F : ∀ (w : World) (mg : Str → Option Value) (fa : Addr) (h : Heap), (K w.params).In h → h.Ns mainGlobals mg → mg d.name = some (.ref fa) → ∃ (dfs : Nat → Option Addr) (cs ls : List (Addr × Addr)) (nm : Nat → Nat → Str) (tx : Nat → Option CTx) (cc : Nat → Option Addr) (cl : Cls), TabsOf (K w.params) names (cs ++ ls) ∧ LawE l.prog w (K w.params) mg x dfs cs ls nm tx cc cl g fa) :
    PySem.W.WalkO q loose XP YP l.row.toRowW d [] (fun f vs => PySem.call f vs) := by
  refine Att.attach_callB hm hd0 fun w s0 s1 mg mb fa ob pm cd doc a vs ns Gr Yh hob hfd hcd hmg hls his hln hbt hgn => ?_
  have KH := hYK w _ Yh
  obtain ⟨dfs, cs, ls, nm, tx, cc, cl, tabs, fd, hbind, ok⟩ := F w mg fa _ KH Gr.T.g hmg
  have each : ∀ p ∈ cs ++ ls, (PySem.W.CodeHd s1.heap p.1 p.2 ∧ s1.heap.get? p.2 = some (PySem.W.tabObj #[])) ∧ (K w.params).lookup p.2 = none := fun p hp => by
    obtain ⟨y, hy, t1, t2⟩ := tabsOf_at tabs hp
    obtain ⟨r, hr⟩ := Option.isSome_iff_exists.mp (List.all_eq_true.mp hq y hy)
    exact ⟨PySem.W.tab_of Gr.T KH hr t1, t2⟩
  refine LamX.law_callTs (cs := cs ++ ls) (x := x) (k := 230) (CX := L2.CX l.prog w) KH Gr.T.g Gr.T.b Gr.T.builtins Gr.T.nolimit hgn (fun p hp => (each p hp).1.2) (fun p hp => (each p hp).2) (fun p hp => (each p hp).1.1) Gr.T.bmain hls his
    (Nat.le_trans hln (by decide)) ⟨by decide, by decide, by decide⟩ (fun base kb nb tb => (ok base kb nb fun p hp => ⟨(tb p hp).code, (tb p hp).bm, (tb p hp).gP⟩).ok) (fun s u => .of_eq (hbind [u] rfl)) (fun H hH hS => says_ok hg (nl w) hH hln hS) fun H e s' hx => ?_
  obtain ⟨_, _, _, _, _, _, _, _, _, _, _, _, z⟩ := hx
  exact z
end EV
namespace EV
open PySem PySem.Spec PyProof.Rows L2
def AtCs (K : PySem.W.Frag) : List Str → List Addr → Prop
  | x :: xs, C :: Cs => PySem.W.nsIn K mainGlobals x = some (some (.ref C)) ∧ AtCs K xs Cs
  | [], [] => True
  | _, _ => False
end EV
namespace EV
end EV
namespace EV
open PySem PySem.Spec PyProof.Rows L2
section
variable {X : Cx} {B : Bx} {G : GC} {pins : List (Addr × Obj)} {σ : L2.St} {H : Hp} {s : Shared} {m : Nat → Addr} {h : Hpe}
end
structure ClE (P : Program) (w : World) (K : PySem.W.Frag) (mg : Str → Option Value) (base : Heap) (G : GC) (cl : Cls) (lv : Nat) (t : CTx) (g : List W → Hpe → Res W) : Prop where
  run : ∀ (A : Around) (outer : List PySem.Env) (s : Shared) (H : Hp) (f : Addr) (us : List Value) (vs vs' : List V) (Q : VK) (E : XK), Room lv A → Env0 P w K mg base A outer s H → ClAt G t s H (frs outer) f vs' → Vals vs us →
    (∃ m h ws caps, RH G m h H ∧ RCs G (CfAt G s H (frs outer)) m h.nx H ws vs ∧ RCs G (CfAt G s H (frs outer)) m h.nx H caps vs' ∧ ws.length = t.ps.length ∧ Out G cl (RW G) (fun c d H' => E c d H') m h H (g (ws ++ caps) h) Q) →
    codeAny (model P w) A (.call (.ref f) ⟨us, []⟩) (CR (L2.CX P w) outer P w H s Q E) s
section
variable {P : Program} {w : World} {K : PySem.W.Frag} {mg : Str → Option Value} {base : Heap} {G : GC} {cl : Cls} {k : Nat} {t : CTx} {N : List Str} {fe : FE} {fs : FS} {body : Expr} {sts : List Stmt}
end
end EV
namespace EV
open PySem PySem.Spec PyProof.Rows L2
def arG (n : Nat) (g : List W → Hpe → Res W) (ws : List W) (h : Hpe) : Res W := bif Nat.beq ws.length n then g ws h else .no
structure DvE (P : Program) (w : World) (K : PySem.W.Frag) (mg : Str → Option Value) (base : Heap) (G : GC) (cl : Cls) (lv : Nat) (f : Addr) (g : List W → Hpe → Res W) : Prop where
  ex : ∃ fd ps g0, FnE P w K mg base lv f fd ps G cl g0 ∧ PySem.W.keepIn K (.ref f) = true ∧ Binds K fd ps [] ∧ ∀ ws h, g ws h = arG ps.length g0 ws h
structure Cal (P : Program) (w : World) (K : PySem.W.Frag) (mg : Str → Option Value) (base : Heap) (G : GC) (cl : Cls) (lv : Nat) (T : Nat → List W → Hpe → Res W) : Prop where
  df : ∀ k f, G.dfs k = some f → DvE P w K mg base G cl lv f (T k)
  clo : ∀ k t, G.tx k = some t → ∃ g, ClE P w K mg base G cl lv t g ∧ ∀ ws h, T k ws h = arG (t.ps.length + t.fr.length) g ws h
section
variable {X : Cx} {B : Bx} {k lv i : Nat} {T : Nat → List W → Hpe → Res W} {x : Str} {p pos : Pos} {e : Expr} {es : List Expr} {fs : FA}
end
def Kt (G : GC) (H H' : Hp) : Prop := ∀ P ∈ G.ltabs, ∀ (pos : Pos) (ps : Array Value) (v : Value), H P = some (.tbl ps) → codeAmong pos ps.toList = some v → ∃ ps', H' P = some (.tbl ps') ∧ codeAmong pos ps'.toList = some v
theorem Kt.refl {G : GC} {H : Hp} : Kt G H H := fun _ _ _ ps _ e c => ⟨ps, e, c⟩
theorem Kt.trans {G : GC} {H H1 H2 : Hp} (a : Kt G H H1) (b : Kt G H1 H2) : Kt G H H2 := fun P hP pos ps v e c => by
  obtain ⟨ps', e', c'⟩ := a P hP pos ps v e c
  exact b P hP pos ps' v e' c'
section
variable {X : Cx} {G : GC} {pins : List (Addr × Obj)} {σ : L2.St} {H : Hp} {s : Shared} {m : Nat → Addr} {h : Hpe}
end
end EV
namespace EV
open PySem PySem.Spec PyProof.Rows L2
structure CapsB (X : Cx) (t : CTx) (js : List Nat) : Prop where
  free : ∀ y ∈ t.scope.names, y.2 = .free → X.env.scope.names.lookup y.1 = some .cell ∨ X.env.scope.names.lookup y.1 = some .free
  fr : ∀ y ∈ t.fr, (y, NameKind.free) ∈ t.scope.names
  at_ : js.map (fun j => X.N[j]?) = t.fr.map some
mutual
inductive RM (X : Cx) (B : Bx) (σ : L2.St) (pins : List (Addr × Obj)) (m : Nat → Addr) (n : Nat) (H : Hp) : W → V → Prop
  | rc {w : W} {v : V} : RC B.G B.cf m n H w v → RM X B σ pins m n H w v
  | mk {k : Nat} {f c P : Addr} {caps : List W} {t : CTx} {o : Obj} {fd : FuncData} {pos : Pos} {ps : Array Value} {vs : List V} {js : List Nat} : B.G.tx k = some t → (f, o) ∈ pins → f ∉ frs X.stack → o.data = .func fd → FdOk fd t (cloFrom X.env.cells t.scope.names []) c → P ∈ B.G.ltabs → H P = some (.tbl ps) →
      codeAmong pos ps.toList = some (.ref c) → B.G.nm pos.line pos.col = t.qual → CapsB X t js → vs.map some = js.map (NdefX.slotAt σ) → RCs B.G B.cf m n H caps vs → RM X B σ pins m n H (.clo k caps) (.ref f)
inductive RMs (X : Cx) (B : Bx) (σ : L2.St) (pins : List (Addr × Obj)) (m : Nat → Addr) (n : Nat) (H : Hp) : List W → List V → Prop
  | nil : RMs X B σ pins m n H [] []
  | cons {w : W} {ws : List W} {v : V} {vs : List V} : RM X B σ pins m n H w v → RMs X B σ pins m n H ws vs → RMs X B σ pins m n H (w :: ws) (v :: vs)
end
section
variable {X : Cx} {B : Bx} {σ : L2.St} {pins pins' : List (Addr × Obj)} {m : Nat → Addr} {n : Nat} {H H' : Hp}
theorem RM.mono {w : W} {v : V} (r : RM X B σ pins m n H w v) (t : TupK H H') (kt : Kt B.G H H') (hp : ∀ p ∈ pins, p ∈ pins') : RM X B σ pins' m n H' w v := by
  cases r with
  | rc r => exact .rc (r.mono (fun _ _ => rfl) (Nat.le_refl _) t)
  | mk a b c d e f g i j k l q =>
    obtain ⟨ps', g', i'⟩ := kt _ f _ _ _ g i
    exact .mk a (hp _ b) c d e f g' i' j k l (q.map (fun _ _ => rfl) (Nat.le_refl _) t fun _ _ _ z => z)
theorem RMs.mono : ∀ {ws : List W} {vs : List V}, RMs X B σ pins m n H ws vs → TupK H H' → Kt B.G H H' → (∀ p ∈ pins, p ∈ pins') → RMs X B σ pins' m n H' ws vs
  | _, _, .nil, _, _, _ => .nil
  | _, _, .cons a b, t, kt, hp => .cons (a.mono t kt hp) (b.mono t kt hp)
end
abbrev FL := Rho → Hpe → Option (List W)
structure SLt (X : Cx) (B : Bx) (es : List Expr) (f : FL) : Prop where
  run : ∀ (pos : Pos) (pins : List (Addr × Obj)) (s : Shared) (σ : L2.St) (H : Hp) (m : Nat → Addr) (h : Hpe) (ρ : Rho) (ws : List W) (K : List Value → Shared → Prop), Inv X pins σ H s → SS B.G B.cf m h ρ σ H → f ρ h = some ws →
    (∀ (pins' : List (Addr × Obj)) (H' : Hp) (s' : Shared) (us : List Value) (vs : List V), (∀ p ∈ pins, p ∈ pins') → Inv X pins' σ H' s' → RH B.G m h H' → Mv m h.nx H m h.nx H' → Kt B.G H H' → Vals vs us → RMs X B σ pins' m h.nx H' ws vs → K us s') →
    wpAny (model X.prog X.w) X.A (spliced (backTo pos (starEach es X.env))) K X.xe s
section
variable {X : Cx} {B : Bx} {e : Expr} {es : List Expr} {f : FL} {x : Str} {p lpos pos : Pos} {i k : Nat}
theorem Inv.pinned {pins : List (Addr × Obj)} {σ : L2.St} {H : Hp} {s : Shared} (I : Inv X pins σ H s) {f : Addr} {o : Obj} (e : s.heap.get? f = some o) (n : H f = none) (nl : f ≠ X.env.locals) (nf : f ∉ frs X.stack) (nc : ∀ v, o.data ≠ .cell v) : Inv X (pins ++ [(f, o)]) σ H s := by
  refine I.pins_of fun p hp => ?_
  rcases List.mem_append.mp hp with z | z
  · exact I.pin p (List.mem_append_right _ z)
  · obtain rfl := List.mem_singleton.mp z
    refine ⟨e, n, nl, fun z => nf ?_, nc⟩
    rcases I.ok.stk with q | ⟨q, _⟩
    · rw [q]; exact z
    · rw [q]
      unfold frs
      rw [List.filterMap_cons]
      split
      · exact z
      · exact List.mem_cons_of_mem _ z
end
structure SAC (X : Cx) (B : Bx) (es : List Expr) (f : FA) : Prop where
  run : ∀ (pos : Pos) (pins : List (Addr × Obj)) (s : Shared) (σ : L2.St) (H : Hp) (m : Nat → Addr) (h : Hpe) (ρ : Rho) (K : List Value → Shared → Prop), Inv X pins σ H s → SS B.G B.cf m h ρ σ H →
    (match f ρ h with
      | .ok ws h' => ∀ (pins' : List (Addr × Obj)) (m' : Nat → Addr) (H' : Hp) (s' : Shared) (us : List Value) (vs : List V), (∀ p ∈ pins, p ∈ pins') → Inv X pins' σ H' s' → RH B.G m' h' H' → Mv m h.nx H m' h'.nx H' → Vals vs us → RMs X B σ pins' m' h'.nx H' ws vs → K us s'
      | .ex x h' => ∀ m' H' c d, RH B.G m' h' H' → Mv m h.nx H m' h'.nx H' → ExR B.G B.cl m' h'.nx H' x c d → B.W c d σ H'
      | .no => False) → wpAny (model X.prog X.w) X.A (spliced (backTo pos (starEach es X.env))) K X.xe s
section
variable {X : Cx} {B : Bx} {e : Expr} {es : List Expr} {fe : FE} {fl : FL} {fs : FA} {x : Str} {p pos : Pos} {n k : Nat} {g : List W → Hpe → Res W}
end
end EV
namespace EV
open PySem PySem.Spec PyProof.Rows L2
def assoc {α : Type} : List (Nat × α) → Nat → Option α
  | [], _ => none
  | (j, a) :: r, k => bif Nat.beq k j then some a else assoc r k
def nmOf : List (Pos × Str) → Nat → Nat → Str
  | [], _, _ => ""
  | (p, x) :: r, l, c => bif Nat.beq p.line l && Nat.beq p.col c then x else nmOf r l c
structure GX (G : GC) (ns : List (Pos × Str)) (ts : List (Nat × CTx)) : Prop where
  nm : G.nm = nmOf ns
  tx : G.tx = assoc ts
section
variable {X : Cx} {B : Bx} {es : List Expr} {f : FL} {x : Str} {p pos : Pos} {k : Nat}
end
section
variable {P : Program} {w : World} {K : PySem.W.Frag} {mg : Str → Option Value} {base : Heap} {G : GC} {cl : Cls} {lv : Nat} {t : CTx}
end
end EV
namespace EV
open PySem PySem.Spec PyProof.Rows L2
section
variable {P : Program} {w : World} {K : PySem.W.Frag} {mg : Str → Option Value} {base : Heap} {G : GC} {cl : Cls} {n : Str} {st : Stmt} {ps : List Str} {lv : Nat} {g0 T : List W → Hpe → Res W} {c Pt g : Addr}
end
end EV
namespace EV
open PySem PySem.Spec PyProof.Rows L2
section
variable {X : Cx} {pins : List (Addr × Obj)} {σ : L2.St} {H : Hp} {s : Shared} {a b : Addr} {xs : Dn} {k : NestedKey} {A : Around} {E : Value → Shared → Prop}
end
section
variable {X : Cx} {o e : Expr} {es : List Expr} {to : TE} {t : TA} {apos cpos : Pos} {r : V → List V → Hp → VK → Prop} {id : String} {name : Str}
end
section
variable {G : GC} {cl : Cls} {Wx : Value → Option Addr → Hp → Prop} {m : Nat → Addr} {h : Hpe} {H : Hp} {w : W} {ws : List W} {v : V} {vs : List V} {Q : VK}
end
section
variable {X : Cx} {B : Bx} {e o : Expr} {es : List Expr} {fo : FE} {fs : FA} {apos cpos : Pos}
end
end EV
namespace EV
open PySem PySem.Spec PyProof.Rows L2
section
variable {ns : List Int} {its : Array Value} {i : Nat} {x : Int}
end
section
variable {prog : Program} {w : World} {A : Around} {R : Result → Shared → Prop} {a : Addr} {res : Value}
end
end EV
namespace EV
open PySem PySem.Spec PyProof.Rows L2
section
variable {prog : Program} {w : World} {A : Around} {R : Result → Shared → Prop} {a : Addr} {res : Value}
end
end EV
namespace EV
open PySem PySem.Spec PyProof.Rows L2
section
variable {X : Cx} {pins : List (Addr × Obj)} {σ : L2.St} {H : Hp} {s : Shared} {l : Addr}
end
section
variable {X : Cx} {B : Bx} {e : Expr} {es : List Expr} {fs : FA} {x : Str} {p pos : Pos} {id : String} {r : List V → Hp → VK → Prop} {g : List W → Hpe → Res W}
end
end EV
namespace EV
open PySem PySem.Spec PyProof.Rows L2
section
variable {X : Cx} {B : Bx} {lv i : Nat} {T : Nat → List W → Hpe → Res W} {x : Str} {p pos : Pos} {e func : Expr} {es : List Expr} {ff f : FE} {fs : FA}
end
end EV
namespace EV
open PySem PySem.Spec PyProof.Rows L2 RZ
def ZRec (h : Heap) (z TI TO : Addr) (f0 : Value) (fl : Bool) : Prop := h.get? z = some { cls := .type "zip", dict := none, data := .fields #[f0, .bool fl, .bool false, .ref TI, .ref TO], slots := #[] }
def ZAny (h : Heap) (z TI TO : Addr) : Prop := ∃ f0 fl, (f0 = .none ∨ ∃ T : Addr, f0 = rawInt T) ∧ ZRec h z TI TO f0 fl
section
variable {prog : Program} {w : World} {A : Around} {E : Value → Shared → Prop} {s : Shared} {z TI TO i1 i2 l1 l2 : Addr} {k : Nat} {xs ys : Array Value}
end
end EV
namespace EV
open PySem PySem.Spec PyProof.Rows L2 RZ
def ZSt (z TI TO i1 i2 l1 l2 : Addr) (k : Nat) (h : Heap) : Prop := ZAny h z TI TO ∧ IsPair h TI (.ref i1) (.ref i2) ∧ (∃ a b, IsPair h TO a b) ∧ h.IsTupleIter i1 l1 k ∧ h.IsTupleIter i2 l2 k
section
variable {prog : Program} {w : World} {A : Around} {E : Value → Shared → Prop} {s : Shared} {z TI TO i1 i2 l1 l2 e : Addr} {k : Nat} {xs ys : Array Value}
theorem ZSt.at {h h' : Heap} (st : ZSt z TI TO i1 i2 l1 l2 k h) (kp : ∀ c, c = z ∨ c = TI ∨ c = TO ∨ c = i1 ∨ c = i2 → ∀ o, h.get? c = some o → h'.get? c = some o) : ZSt z TI TO i1 i2 l1 l2 k h' := by
  obtain ⟨⟨f0, fl, hf, hr⟩, h1, ⟨a, b, h2⟩, h3, h4⟩ := st
  exact ⟨⟨f0, fl, hf, kp z (.inl rfl) _ hr⟩, kp TI (.inr (.inl rfl)) _ h1, ⟨a, b, kp TO (.inr (.inr (.inl rfl))) _ h2⟩, h3.at fun o q => kp i1 (by simp) o q, h4.at fun o q => kp i2 (by simp) o q⟩
end
end EV
namespace EV
open PySem PySem.Spec PyProof.Rows L2 RZ
section
variable {X : Cx} {B : Bx} {c a b : Expr} {fs : FA} {p p2 pos pos2 tpos : Pos}
end
end EV
namespace EV
open PySem PySem.Spec PyProof.Rows L2
def AtScr (ns : List Int) (h : Hpe) : Prop := h.get 0 = some (.lst (ns.map W.int)) ∨ h.get 0 = some (.fz (ns.map W.int))
section
variable {ns : List Int} {h : Hpe} {i j : Int}
theorem scr_rd (a : AtScr ns h) : rdL h 0 = some (ns.map W.int) := by
  unfold rdL
  rcases a with a | a <;> rw [a]
theorem bl_1 {g : List W → Hpe → Res W} {f : FE} {ρ : Rho} {w : W} {h1 : Hpe} (e : f ρ h = .ok w h1) : eBl g (aC f aN) ρ h = g [w] h1 := by
  show ((f ρ h).bind fun w h1 => (aN ρ h1).bind fun ws h2 => Res.ok (w :: ws) h2).bind g = _
  rw [e]
  rfl
theorem e2_ok {g : W → W → Hpe → Res W} {fa fb : FE} {ρ : Rho} {a b : W} {h1 h2 : Hpe} (e : fa ρ h = .ok a h1) (e' : fb ρ h1 = .ok b h2) : e2 g fa fb ρ h = g a b h2 := by
  show ((fa ρ h).bind fun a h1 => (fb ρ h1).bind fun b h2 => g a b h2) = _
  rw [e]
  show ((fb ρ h1).bind fun b h2 => g a b h2) = _
  rw [e']
  rfl
theorem nt_ok {f : FE} {ρ : Rho} {h1 : Hpe} (e : f ρ h = .ok (.bl true) h1) : tNt (asT f) ρ h = .ok false h1 := by
  show (((f ρ h).bind fun w h1 => match truW w h1 with | some b => .ok b h1 | none => .no).bind fun b h1 => .ok (!b) h1) = _
  rw [e]
  rfl
theorem sif_no {t : FT} {s1 s2 : FS} {ρ : Rho} {h1 : Hpe} (e : t ρ h = .ok false h1) : sIf t s1 s2 ρ h = s2 ρ h1 := by
  show bindS (t ρ h) ρ (fun b h1 => bif b then s1 ρ h1 else s2 ρ h1) = _
  rw [e]
  rfl
theorem srt_ok {f : FE} {ρ : Rho} {w : W} {h1 : Hpe} (e : f ρ h = .ok w h1) : sRt f ρ h = .rt w h1 := by
  show bindS (f ρ h) ρ (fun w h1 => .rt w h1) = _
  rw [e]
  rfl
theorem seq_nx {s1 s2 : FS} {ρ ρ' : Rho} {h' : Hpe} (e : s1 ρ h = .nx ρ' h') : sSeq s1 s2 ρ h = s2 ρ' h' := by
  unfold sSeq
  rw [e]
  rfl
theorem seq_rt {s1 s2 : FS} {ρ : Rho} {w : W} {h' : Hpe} (e : s1 ρ h = .rt w h') : sSeq s1 s2 ρ h = .rt w h' := by
  unfold sSeq
  rw [e]
  rfl
theorem run_rt {n : Nat} {f : FS} {ws : List W} {w : W} {h' : Hpe} (e : f (ws.map some ++ List.replicate (n - ws.length) none) h = .rt w h') : runB n f ws h = .ok w h' := by
  unfold runB
  rw [e]
end
end EV
namespace EV
open PySem PySem.Spec PyProof.Rows L2
section
variable {X : Cx} {B : Bx} {a b c : Expr} {f g : FE} {p p2 pos pos2 : Pos}
end
end EV
namespace EV
open PySem PySem.Spec PyProof.Rows L2
end EV
namespace EV
open PySem PySem.Spec PyProof.Rows L2
section
variable {G : GC} {m : Nat → Addr} {n : Nat} {H : Hp}
end
section
variable {X : Cx} {B : Bx} {e : Expr} {fs : FA} {p pos : Pos}
end
end EV
namespace EV
open PySem PySem.Spec PyProof.Rows L2
section
variable {prog : Program} {w : World} {A : Around} {E : Value → Shared → Prop} {s : Shared}
end
end EV
namespace EV
open PySem PySem.Spec PyProof.Rows L2
section
variable {X : Cx} {B : Bx} {a b : Expr} {fa fb : FE} {pos : Pos}
end
end EV
namespace EV
open PySem PySem.Spec PyProof.Rows L2
section
variable {X : Cx} {B : Bx} {e : Expr} {es : List Expr} {fs : FA} {f : FE} {p pos apos : Pos}
end
end EV
namespace EV
open PySem PySem.Spec PyProof.Rows L2
section
variable {G : GC} {m : Nat → Addr} {n : Nat} {h : Hpe} {H : Hp}
theorem RH.ob (r : RH G m h H) {i c : Nat} {fs : List (Str × W)} (hi : i < h.nx) (e : h.get i = some (.ob c fs)) : ∃ C dx gs, H (m i) = some (.ins C dx gs) ∧ G.cc c = some C ∧ fs.map (·.1) = gs.map (·.1) ∧ RWs G m h.nx H (fs.map (·.2)) (gs.map (·.2)) := by
  obtain ⟨o, ho, q1, q2, q3⟩ := r.obj i hi
  rw [e] at q1; cases q1
  cases q3 with
  | ob a b c => exact ⟨_, _, _, q2, a, b, c⟩
end
section
variable {X : Cx} {B : Bx} {a b o e value : Expr} {es : List Expr} {fo fv f : FE} {fs : FA} {pos p apos tpos : Pos} {x name : Str} {cs : List Nat} {c n k : Nat} {ps : List Str}
structure DmE (P : Program) (w : World) (K : PySem.W.Frag) (mg : Str → Option Value) (base : Heap) (G : GC) (cl : Cls) (c : Nat) (name : Str) (ps : List Str) (k : Nat) (g : List W → Hpe → Res W) : Prop where
  ex : ∃ C f fd, G.cc c = some C ∧ L2.Cls K C ∧ Meth K C name f ∧ FnE P w K mg base k f fd ps G cl g ∧ Binds K fd ps []
structure MkE (P : Program) (w : World) (K : PySem.W.Frag) (mg : Str → Option Value) (base : Heap) (G : GC) (cl : Cls) (x : Str) (c : Nat) (ps : List Str) (k : Nat) (g : List W → Hpe → Res W) : Prop where
  ex : ∃ C f fd, G.cc c = some C ∧ Mk K C f ∧ mg x = some (.ref C) ∧ FnE P w K mg base k f fd ps G cl g ∧ Binds K fd ps []
end
end EV
namespace EV
open PySem PySem.Spec PyProof.Rows L2
def lockW (h : Hpe) (n : Nat) : Option (List (Key × W) × Hpe) := match h.get n with
  | some (.dk kvs) => some (kvs, { h.set n (.fd kvs) with lk := n :: h.lk })
  | some (.fd kvs) => some (kvs, h)
  | _ => none
section
variable {G : GC} {m m' : Nat → Addr} {h h' : Hpe} {H H' : Hp}
theorem RH.relk (r : RH G m h H) (l : List Nat) : RH G m { h with lk := l } H := ⟨r.sz, r.inj, r.obj, r.tab, r.ltab⟩
theorem lock_ok {i : Nat} {kvs : List (Key × W)} (r : RH G m h H) (hi : i < h.nx) (e : lockW h i = some (kvs, h')) :
    (∃ kus, H (m i) = some (.dK kus) ∧ ∀ od, RH G m h' (upd H (m i) (.frz od (.dK kus))) ∧ Mv m h.nx H m h'.nx (upd H (m i) (.frz od (.dK kus))) ∧ i < h'.nx ∧ kvs.map (·.1) = kus.map (·.1) ∧ RWs G m h'.nx (upd H (m i) (.frz od (.dK kus))) (kvs.map (·.2)) (kus.map (·.2))) ∨
    (h' = h ∧ ∃ od kus, H (m i) = some (.frz od (.dK kus)) ∧ kvs.map (·.1) = kus.map (·.1) ∧ RWs G m h.nx H (kvs.map (·.2)) (kus.map (·.2))) := by
  obtain ⟨o, ho, q1, q2, q3⟩ := r.obj i hi
  unfold lockW at e
  rw [q1] at e
  cases q3 with
  | dk a b =>
    cases e
    refine .inl ⟨_, q2, fun od => ?_⟩
    obtain ⟨r2, v2⟩ := r.store hi (o := .fd kvs) (ho := .frz od (.dK _)) (.fd a b) (fun ob u z => by rw [q2] at z; cases z)
    exact ⟨r2.relk _, v2, hi, a, b.mono (fun _ _ => rfl) (Nat.le_refl _) (v2.tupk r)⟩
  | fd a b =>
    cases e
    exact .inr ⟨rfl, _, _, q2, a, b⟩
  | _ => cases e
def srcQ (kvs : List (Key × W)) (f : Key × W → W) : Src := fun _ i => match kvs[i]? with
  | some p => some (some (f p))
  | none => some none
theorem kv_at {n : Nat} : ∀ {kvs : List (Key × W)} {kus : List (Key × V)} {j : Nat} {p : Key × W}, kvs.map (·.1) = kus.map (·.1) → RWs G m n H (kvs.map (·.2)) (kus.map (·.2)) → kvs[j]? = some p → ∃ u, kus[j]? = some (p.1, u) ∧ RW G m n H p.2 u
  | [], _, _, _, _, _, e => by simp at e
  | _ :: _, [], _, _, a, _, _ => by cases a
  | q :: kvs, (k, u) :: kus, 0, p, a, r, e => by
    have a1 : q.1 = k := (List.cons.inj a).1
    have e1 : q = p := by simpa using e
    subst e1; subst a1
    cases r with
    | cons r1 _ => exact ⟨u, rfl, r1⟩
  | q :: kvs, (k, u) :: kus, j + 1, p, a, r, e => by
    cases r with
    | cons _ r2 =>
      obtain ⟨v, e1, e2⟩ := kv_at (j := j) (List.cons.inj a).2 r2 (by simpa using e)
      exact ⟨v, by simpa using e1, e2⟩
theorem srcQ_end {kvs : List (Key × W)} {kus : List (Key × V)} {f : Key × W → W} {j : Nat} (a : kvs.map (·.1) = kus.map (·.1)) (e : srcQ kvs f h j = some none) : kus.length ≤ j := by
  unfold srcQ at e
  split at e
  · cases e
  · rename_i z
    have l := congrArg List.length a
    simp only [List.length_map] at l
    rw [← l]
    exact List.getElem?_eq_none_iff.mp z
theorem srcQ_at {kvs : List (Key × W)} {f : Key × W → W} {j : Nat} {w : W} (e : srcQ kvs f h j = some (some w)) : ∃ p, kvs[j]? = some p ∧ w = f p := by
  unfold srcQ at e
  split at e
  · rename_i p z
    cases e
    exact ⟨p, z, rfl⟩
  · cases e
theorem lt_of_at {α : Type} {xs : List α} {j : Nat} {x : α} (e : xs[j]? = some x) : j < xs.length := (List.getElem?_eq_some_iff.mp e).1
variable {i : Nat} {od : Obj} {kvs : List (Key × W)} {kus : List (Key × V)}
theorem its_dkeys (hi : i < h.nx) (eH : H (m i) = some (.frz od (.dK kus))) (a : kvs.map (·.1) = kus.map (·.1)) (r : RWs G m h.nx H (kvs.map (·.2)) (kus.map (·.2))) : ItS G m h.nx H (srcQ kvs fun p => kW p.1) (Itk (m i) od kus) := by
  intro m' h' H' j rh old le tk kf
  have e' := kf i hi _ _ eH
  have r' := r.mono old le tk
  refine ⟨fun e => ⟨e', srcQ_end a e⟩, fun w e => ?_⟩
  obtain ⟨p, ep, rfl⟩ := srcQ_at e
  obtain ⟨u, eu, ru⟩ := kv_at a r' ep
  refine ⟨⟨e', lt_of_at eu⟩, fun x H'' ⟨e1, k, v, e2, e3⟩ => ?_⟩
  subst e1; subst e3
  rw [eu] at e2; cases e2
  exact ⟨rh, Mv.refl, kW_rw _⟩
end
section
variable {X : Cx} {B : Bx} {a b o e tg : Expr} {fe f : FE} {pos p apos cpos tpos : Pos} {elts : List Expr} {kk : Nat}
def iV3 (f : FE) : FI := fun ρ h => (f ρ h).bind fun w h1 => match w with
  | .tup ws => .ok (srcT ws) h1
  | .ref n => match lockW h1 n with
    | some (kvs, h2) => .ok (srcQ kvs fun p => kW p.1) h2
    | none => match rdL h1 n with
      | some _ => .ok (srcL n) h1
      | none => .no
  | _ => .no
theorem pi_any {l : Expr} {tl : TE} (hl : PE X l tl) : PI X tg l (fun σ H R => tl σ H fun x H1 => ∃ a, x = .ref a ∧ (((∃ xs, SqL X.K H1 a xs) ∧ R (Itl X.K a) H1) ∨ ((∃ xs, SqT X.K H1 a xs) ∧ R (Itt X.K a) H1) ∨ (∃ od kus, H1 a = some (.frz od (.dK kus)) ∧ R (Itk a od kus) H1) ∨
    ∃ kus, H1 a = some (.dK kus) ∧ ∀ od, R (Itk a od kus) (upd H1 a (.frz od (.dK kus))))) := by
  refine ⟨fun pins s σ H R I h => ?_⟩
  refine thn (hl.run pins s σ H _ I h) fun v s1 ⟨x, H1, I1, r1, q1⟩ => ?_
  obtain ⟨a, e, q⟩ := q1
  subst e
  cases r1
  have dk : ∀ {H2 : Hp} {od : Obj} {kus : List (Key × V)}, Inv X pins σ H2 s1 → H2 a = some (.frz od (.dK kus)) → R (Itk a od kus) H2 → wpAny (model X.prog X.w) X.A (pyIter (.ref a)) (PIE X pins σ tg R) X.xe s1 := fun I2 hd q => by
    obtain ⟨hs, hgd, hx, es, ep, vs, hdt, hsz, kv, hm⟩ := I2.frzK hd
    exact iter_keys hs hgd hx hdt (pi_one I2 _ (turn_keys s1.heap.objs.size hdt) ⟨_, Heap.get?_push_size _ rfl, rfl, by rw [hsz]; rfl⟩ q)
  rcases q with ⟨⟨xs, hq⟩, q⟩ | ⟨⟨xs, hq⟩, q⟩ | ⟨od, kus, hq, q⟩ | ⟨kus, hq, q⟩
  · obtain ⟨its, rv, p, hz⟩ := I1.list hq
    refine wpAny_pyIter_list p.isList ?_
    refine ⟨s1.heap.objs.size, [s1.heap.objs.size], _, _, H1, rfl, I1.kept (t' := s1.toks) fun b o e => Heap.get?_push_of_some _ e, turn_list a _, ⟨_, Heap.get?_push_size _ rfl, rfl, rfl⟩, fun b hb => ?_, q⟩
    have e : b = s1.heap.objs.size := by simpa using hb
    subst e
    exact I1.fpOk (Nat.le_refl _) (I1.hok.fresh (Nat.le_refl _))
  · obtain ⟨its, rv, p, hz⟩ := I1.tuple hq
    refine wpAny_pyIter_tuple (show s1.heap.IsTuple a its.toArray from p) ?_
    refine ⟨s1.heap.objs.size, [s1.heap.objs.size], _, _, H1, rfl, I1.kept (t' := s1.toks) fun b o e => Heap.get?_push_of_some _ e, turn_tuple a _, ⟨_, Heap.get?_push_size _ rfl, rfl, rfl⟩, fun b hb => ?_, q⟩
    have e : b = s1.heap.objs.size := by simpa using hb
    subst e
    exact I1.fpOk (Nat.le_refl _) (I1.hok.fresh (Nat.le_refl _))
  · exact dk I1 hq q
  · obtain ⟨od, I2⟩ := I1.lock hq trivial
    exact dk I2 upd_same (q od)
theorem si_v3 (hK : X.K = B.G.K) (h : SE X B e f) : SI X B tg e (iV3 f) :=
  pi_imp (pi_any h) fun σ H R ⟨m, h, ρ, s, o⟩ => ⟨m, h, ρ, s, (Out.bind s.rh o).mono fun v H1 ⟨w, m1, h1, r1, v1, q1, o1⟩ => by
    cases w <;> try exact o1.elim
    · rename_i ws
      obtain ⟨a, xs, rfl, sq, q⟩ := rw_tup q1
      exact ⟨a, rfl, .inr (.inl ⟨⟨xs, by rw [hK]; exact sq⟩, by rw [hK]; exact o1 m1 H1 _ r1 Mv.refl (its_tup sq q)⟩)⟩
    · rename_i n
      obtain ⟨rfl, hn⟩ := rw_ref q1
      dsimp only at o1
      cases c : lockW h1 n with
      | some t =>
        obtain ⟨kvs, h2⟩ := t
        rw [c] at o1
        rcases lock_ok r1 hn c with ⟨kus, eH, k⟩ | ⟨rfl, od, kus, eH, k1, k2⟩
        · refine ⟨_, rfl, .inr (.inr (.inr ⟨kus, eH, fun od => ?_⟩))⟩
          obtain ⟨r2, v2, hn2, k1, k2⟩ := k od
          exact o1 m1 _ _ r2 v2 (its_dkeys hn2 upd_same k1 k2)
        · exact ⟨_, rfl, .inr (.inr (.inl ⟨od, kus, eH, o1 m1 _ _ r1 Mv.refl (its_dkeys hn eH k1 k2)⟩))⟩
      | none =>
        rw [c] at o1
        dsimp only at o1
        split at o1
        · rename_i ws ew
          obtain ⟨xs, sq, q⟩ := r1.rd hn ew
          exact ⟨_, rfl, .inl ⟨⟨xs, by rw [hK]; exact sq⟩, by rw [hK]; exact o1 m1 H1 _ r1 Mv.refl (its_lst hn)⟩⟩
        · exact o1.elim⟩
end
def unlk (h0 : Hpe) : List Nat → Hpe → Hpe
  | [], h => h
  | n :: r, h => unlk h0 r (match h0.get n, h.get n with
    | some (.dk _), some (.fd kvs) => bif Nat.blt n h0.nx then h.set n (.dk kvs) else h
    | some (.dn _), some (.fn kvs) => bif Nat.blt n h0.nx then h.set n (.dn kvs) else h
    | _, _ => h)
def unl (h0 h : Hpe) : Hpe := match h0.lk with
  | [] => { unlk h0 (h.lk.take (h.lk.length - h0.lk.length)) h with lk := [] }
  | n :: r => { unlk h0 (h.lk.take (h.lk.length - h0.lk.length)) h with lk := n :: r }
theorem unl_eq (h0 h : Hpe) : unl h0 h = { unlk h0 (h.lk.take (h.lk.length - h0.lk.length)) h with lk := h0.lk } := by
  unfold unl
  split <;> rename_i e <;> rw [e]
def sUn (f : FS) : FS := fun ρ h => match f ρ h with
  | .nx ρ' h' => .nx ρ' (unl h h')
  | .rt w h' => .rt w (unl h h')
  | r => r
def Ul (X : Cx) (H H2 : Hp) : Prop := ∀ pins σ s, Inv X pins σ H s → Inv X pins σ H2 s
section
variable {G : GC} {m m' : Nat → Addr} {h h' : Hpe} {H H' : Hp}
theorem RH.unlock (r : RH G m h H) {i : Nat} (hi : i < h.nx) {kvs : List (Key × W)} (e : h.get i = some (.fd kvs)) :
    ∃ od kus, H (m i) = some (.frz od (.dK kus)) ∧ TupK H (upd H (m i) (.dK kus)) ∧ RH G m (h.set i (.dk kvs)) (upd H (m i) (.dK kus)) := by
  obtain ⟨o0, ho0, e0, eH, r0⟩ := r.obj i hi
  rw [e] at e0; cases e0
  cases r0 with
  | @fd od _ kus a b =>
    have tk : TupK H (upd H (m i) (.dK kus)) := fun p xs q => by
      rcases q with q | ⟨ob, q⟩
      · exact .inl (by rw [upd_ne (fun z : p = m i => by rw [z, eH] at q; cases q)]; exact q)
      · exact .inr ⟨ob, by rw [upd_ne (fun z : p = m i => by rw [z, eH] at q; cases q)]; exact q⟩
    refine ⟨od, kus, eH, tk, r.sz, r.inj, fun j hj => ?_, fun P hP => ?_, fun P hP => ?_⟩
    · by_cases c : j = i
      · subst c
        have hsz := r.sz
        exact ⟨.dk kvs, .dK kus, put_same 41 h.t j (.dk kvs) (by omega), upd_same, .dk a (b.mono (fun _ _ => rfl) (Nat.le_refl _) tk)⟩
      · obtain ⟨o', ho', q1, q2, q3⟩ := r.obj j hj
        refine ⟨o', ho', (put_ne 41 h.t i j (.dk kvs) c).trans q1, ?_, q3.mono (fun _ _ => rfl) (Nat.le_refl _) tk⟩
        rw [upd_ne (fun z : m j = m i => c (r.inj j i hj hi z))]; exact q2
    · obtain ⟨ps, e, t⟩ := r.tab P hP
      exact ⟨ps, by rw [upd_ne (fun z : P = m i => by rw [z, eH] at e; cases e)]; exact e, t⟩
    · exact (r.ltab P hP).keep (fun ps e => by rw [upd_ne (fun z : P = m i => by rw [z, eH] at e; cases e)]; exact e) fun b q e nb => ⟨by rw [upd_ne (fun z : b = m i => nb i hi z.symm)]; exact e, nb⟩
theorem RH.unlockN (r : RH G m h H) {i : Nat} (hi : i < h.nx) {kvs : List (W × W)} (e : h.get i = some (.fn kvs)) :
    ∃ od xs, H (m i) = some (.frz od (dnO G.prog G.wo (m i) xs)) ∧ TupK H (upd H (m i) (dnO G.prog G.wo (m i) xs)) ∧ RH G m (h.set i (.dn kvs)) (upd H (m i) (dnO G.prog G.wo (m i) xs)) := by
  obtain ⟨o0, ho0, e0, eH, r0⟩ := r.obj i hi
  rw [e] at e0; cases e0
  cases r0 with
  | @fn od _ xs a b c d =>
    have tk : TupK H (upd H (m i) (dnO G.prog G.wo (m i) xs)) := fun p ys q => by
      rcases q with q | ⟨ob, q⟩
      · exact .inl (by rw [upd_ne (fun z : p = m i => by rw [z, eH] at q; cases q)]; exact q)
      · refine .inr ⟨ob, ?_⟩
        rw [upd_ne (fun z : p = m i => by
          rw [z, eH] at q
          have q' : HO.frz od (HO.ext (DnP G.prog G.wo (m i) xs)) = HO.frz ob (.tup ys) := Option.some.inj q
          cases q')]
        exact q
    refine ⟨od, xs, eH, tk, r.sz, r.inj, fun j hj => ?_, fun P hP => ?_, fun P hP => ?_⟩
    · by_cases cc : j = i
      · subst cc
        have hsz := r.sz
        exact ⟨.dn kvs, _, put_same 41 h.t j (.dn kvs) (by omega), upd_same, .dn a b (c.mono (fun _ _ => rfl) (Nat.le_refl _) tk) (d.mono (fun _ _ => rfl) (Nat.le_refl _) tk)⟩
      · obtain ⟨o', ho', q1, q2, q3⟩ := r.obj j hj
        refine ⟨o', ho', (put_ne 41 h.t i j (.dn kvs) cc).trans q1, ?_, q3.mono (fun _ _ => rfl) (Nat.le_refl _) tk⟩
        rw [upd_ne (fun z : m j = m i => cc (r.inj j i hj hi z))]; exact q2
    · obtain ⟨ps, e, t⟩ := r.tab P hP
      exact ⟨ps, by rw [upd_ne (fun z : P = m i => by rw [z, eH] at e; cases e)]; exact e, t⟩
    · exact (r.ltab P hP).keep (fun ps e => by rw [upd_ne (fun z : P = m i => by rw [z, eH] at e; cases e)]; exact e) fun b q e nb => ⟨by rw [upd_ne (fun z : b = m i => nb i hi z.symm)]; exact e, nb⟩
theorem unlk_ok {X : Cx} {pins : List (Addr × Obj)} {σ : L2.St} {s : Shared} (I : Inv X pins σ H s) (rh : RH G m h H) : ∀ (l : List Nat) (h' : Hpe) (H' : Hp), RH G m' h' H' → Mv m h.nx H m' h'.nx H' →
    ∃ H2, Ul X H' H2 ∧ RH G m' (unlk h l h') H2 ∧ (unlk h l h').nx = h'.nx ∧ Mv m h.nx H m' h'.nx H2 ∧ TupK H' H2
  | [], h', H', r', v => ⟨H', fun _ _ _ z => z, r', rfl, v, .refl⟩
  | n :: l, h', H', r', v => by
    have stay : ∃ H2, Ul X H' H2 ∧ RH G m' (unlk h l h') H2 ∧ (unlk h l h').nx = h'.nx ∧ Mv m h.nx H m' h'.nx H2 ∧ TupK H' H2 := unlk_ok I rh l h' H' r' v
    unfold unlk
    split
    · rename_i kv0 kvs e0 e1
      cases c : Nat.blt n h.nx with
      | false => exact stay
      | true =>
        have hn : n < h.nx := Nat.le_of_ble_eq_true c
        have hn' : n < h'.nx := Nat.lt_of_lt_of_le hn v.le
        obtain ⟨od, kus, eH, tk, r2⟩ := r'.unlock hn' e1
        obtain ⟨kus0, eH0, _⟩ := rh.dk hn (show rdK h n = some kv0 by unfold rdK; rw [e0])
        have em : m' n = m n := v.old n hn
        have u1 : Ul X H' (upd H' (m' n) (.dK kus)) := fun pins' σ' s' I' => I'.unlock eH (by rw [em]; exact I.nofrz eH0 trivial)
        have v2 : Mv m h.nx H m' h'.nx (upd H' (m' n) (.dK kus)) := by
          refine ⟨v.le, v.old, v.new, fun b o e hb => ?_, fun j hj ob u e => ?_⟩
          · rw [upd_ne (fun z : b = m' n => hb n hn (by rw [z, em]))]; exact v.kp b o e hb
          · rw [upd_ne (fun z : m j = m' n => by rw [z, em, eH0] at e; cases e)]; exact v.kf j hj ob u e
        obtain ⟨H2, u2, r3, e3, v3, t3⟩ := unlk_ok I rh l (h'.set n (.dk kvs)) _ r2 v2
        exact ⟨H2, fun pins' σ' s' I' => u2 _ _ _ (u1 _ _ _ I'), r3, e3, v3, TupK.trans tk t3⟩
    · rename_i kv0 kvs e0 e1
      cases c : Nat.blt n h.nx with
      | false => exact stay
      | true =>
        have hn : n < h.nx := Nat.le_of_ble_eq_true c
        have hn' : n < h'.nx := Nat.lt_of_lt_of_le hn v.le
        obtain ⟨od, xs, eH, tk, r2⟩ := r'.unlockN hn' e1
        obtain ⟨o0, ho0, eo, eH0, ro0⟩ := rh.obj n hn
        rw [e0] at eo; cases eo
        obtain ⟨xs0, eH1⟩ : ∃ xs0, H (m n) = some (dnO G.prog G.wo (m n) xs0) := by
          cases ro0 with
          | dn _ _ _ _ => exact ⟨_, eH0⟩
        have em : m' n = m n := v.old n hn
        have u1 : Ul X H' (upd H' (m' n) (dnO G.prog G.wo (m' n) xs)) := fun pins' σ' s' I' => I'.unlock eH (by rw [em]; exact I.nofrz eH1 trivial)
        have v2 : Mv m h.nx H m' h'.nx (upd H' (m' n) (dnO G.prog G.wo (m' n) xs)) := by
          refine ⟨v.le, v.old, v.new, fun b o e hb => ?_, fun j hj ob u e => ?_⟩
          · rw [upd_ne (fun z : b = m' n => hb n hn (by rw [z, em]))]; exact v.kp b o e hb
          · rw [upd_ne (fun z : m j = m' n => by rw [z, em, eH1] at e; cases (show HO.ext _ = HO.frz _ _ from Option.some.inj e))]; exact v.kf j hj ob u e
        obtain ⟨H2, u2, r3, e3, v3, t3⟩ := unlk_ok I rh l (h'.set n (.dn kvs)) _ r2 v2
        exact ⟨H2, fun pins' σ' s' I' => u2 _ _ _ (u1 _ _ _ I'), r3, e3, v3, TupK.trans tk t3⟩
    · exact stay
end
theorem ss_un {X : Cx} {B : Bx} {st : Stmt} {f : FS} (hs : SSt X B st f) : SSt X B st (sUn f) := by
  refine ⟨fun pins s σ H D I ⟨m, h, ρ, ss, o⟩ => ?_⟩
  refine wpAny_mono (hs.run pins s σ H { D with nx := fun σ' H' => ∃ H2, Ul X H' H2 ∧ D.nx σ' H2, rt := fun v H' => ∃ H2, Ul X H' H2 ∧ D.rt v H2 } I ⟨m, h, ρ, ss, ?_⟩) (fun fl s' q => ?_) fun _ _ z => z
  · simp only [sUn, unl_eq] at o
    cases c : f ρ h with
    | nx ρ' h' =>
      rw [c] at o
      intro m' H' σ' s' v
      obtain ⟨H2, u, r2, e2, v2, tk⟩ := unlk_ok I ss.rh (h'.lk.take (h'.lk.length - h.lk.length)) h' H' s'.rh v
      have en := e2
      refine ⟨H2, u, o m' H2 σ' ⟨r2.relk _, s'.len, fun i w e => ?_⟩ (by rw [en]; exact v2)⟩
      obtain ⟨x, e1, r⟩ := s'.sl i w e
      exact ⟨x, e1, by rw [en]; exact r.mono (fun _ _ => rfl) (Nat.le_refl _) tk⟩
    | rt w h' =>
      rw [c] at o
      intro m' H' x r v q
      obtain ⟨H2, u, r2, e2, v2, tk⟩ := unlk_ok I ss.rh (h'.lk.take (h'.lk.length - h.lk.length)) h' H' r v
      have en := e2
      exact ⟨H2, u, o m' H2 x (r2.relk _) (by rw [en]; exact v2) (by rw [en]; exact q.mono (fun _ _ => rfl) (Nat.le_refl _) tk)⟩
    | bk _ _ => rw [c] at o; exact o
    | ct _ _ => rw [c] at o; exact o
    | ex _ _ _ => rw [c] at o; exact o
    | no => rw [c] at o; exact o
  · cases fl with
    | next => obtain ⟨σ', H', I', H2, u, q⟩ := q; exact ⟨σ', H2, u _ _ _ I', q⟩
    | brk => exact q
    | cont => exact q
    | ret w => obtain ⟨x, σ', H', I', r, H2, u, q⟩ := q; exact ⟨x, σ', H2, u _ _ _ I', r, q⟩
end EV
namespace EV
open PySem PySem.Spec PyProof.Rows L2
section
variable {prog : Program} {w : World} {A : Around} {E : Value → Shared → Prop} {s : Shared} {a kS : Addr} {vs : List Value} {kz : List Int} {keys : Array Value} {e e1 : Nat} {P : PySem.Fin → Shared → Prop} {st : SortSt} {f : Value}
end
end EV
namespace EV
open PySem PySem.Spec PyProof.Rows L2
section
variable {X : Cx} {pins : List (Addr × Obj)} {σ : L2.St} {H : Hp} {s : Shared}
variable {e : Expr} {t : TE} {pos p p2 kpos : Pos}
end
end EV
namespace EV
open PySem PySem.Spec PyProof.Rows L2
section
variable {G : GC} {m : Nat → Addr} {n : Nat} {h : Hpe} {H : Hp}
end
section
variable {X : Cx} {B : Bx} {e : Expr} {fe : FE} {pos p p2 kpos : Pos}
end
end EV
namespace EV
open PySem PySem.Spec PyProof.Rows L2
end EV
namespace EV
open PySem PySem.Spec PyProof.Rows L2
def iOr (c : Rho → Hpe → Bool) (f1 f2 : FI) : FI := fun ρ h => bif c ρ h then f1 ρ h else f2 ρ h
theorem si_or {X : Cx} {B : Bx} {tg e : Expr} {f1 f2 : FI} (c : Rho → Hpe → Bool) (h1 : SI X B tg e f1) (h2 : SI X B tg e f2) : SI X B tg e (iOr c f1 f2) :=
  ⟨fun pins s σ H R I ⟨m, h, ρ, ss, o⟩ => by
    unfold iOr at o
    cases q : c ρ h with
    | true => rw [q] at o; exact h1.run pins s σ H R I ⟨m, h, ρ, ss, o⟩
    | false => rw [q] at o; exact h2.run pins s σ H R I ⟨m, h, ρ, ss, o⟩⟩
end EV
namespace EV
open PySem PySem.Spec PyProof.Rows L2
section
variable {X : Cx} {B : Bx} {e : Expr} {f : FE} {pos p2 : Pos} {lo hi st : Option Expr} {fl fh fs : FO}
end
end EV
namespace EV
open PySem PySem.Spec PyProof.Rows L2
section
variable {prog : Program} {w : World} {A : Around} {s : Shared} {I S : Addr} {fp wr : List Addr} {n : Nat} {P : Nat → Value → Prop} {St : Nat → Heap → Prop} {kf : Nat → Nat} {R : Result → Shared → Prop} {d : Value} {J : Heap → Prop}
end
end EV
namespace EV
open PySem PySem.Spec PyProof.Rows L2
section
variable {X : Cx} {pins : List (Addr × Obj)} {σ : L2.St} {H : Hp} {s : Shared}
variable {e de : Expr} {t td : TE} {pos p p2 kp1 kp2 : Pos}
end
end EV
namespace EV
open PySem PySem.Spec PyProof.Rows L2
section
variable {X : Cx} {o de : Expr} {p p2 pos apos mpos kp1 kp2 : Pos} {td t2 : TE}
end
end EV
namespace EV
open PySem PySem.Spec PyProof.Rows L2
section
variable {X : Cx} {o de : Expr} {p p2 pos apos mpos kp1 kp2 : Pos} {td t2 : TE}
end
end EV
namespace EV
open PySem PySem.Spec PyProof.Rows L2
section
variable {X : Cx} {B : Bx} {o de : Expr} {fe fd : FE} {p p2 pos apos mpos kp1 kp2 : Pos}
end
end EV
namespace EV
open PySem PySem.Spec PyProof.Rows L2 RT
section
variable {prog : Program} {w : World} {A : Around} {s : Shared}
end
end EV
namespace EV
open PySem PySem.Spec PyProof.Rows L2 RT
section
variable {X : Cx} {e : Expr} {te : TE} {p p2 pos pos2 : Pos}
end
end EV
namespace EV
open PySem PySem.Spec PyProof.Rows L2
section
variable {X : Cx}
end
end EV
namespace EV
open PySem PySem.Spec PyProof.Rows L2
section
variable {X : Cx} {B : Bx} {e : Expr} {fs : FA} {pos p : Pos}
end
end EV
namespace EV
open PySem PySem.Spec PyProof.Rows L2
section
variable {G : GC} {m : Nat → Addr} {n : Nat} {H : Hp}
end
section
variable {X : Cx} {G : GC} {pins : List (Addr × Obj)} {σ : L2.St} {H : Hp} {s : Shared} {m : Nat → Addr} {h hE : Hpe} {a : Addr} {ws caps : List W} {vs : List V} {zs : List Int} {f : Value} {Q : VK} {g : List W → Hpe → Res W}
end
end EV
namespace EV
open PySem PySem.Spec PyProof.Rows L2
structure SLv (X : Cx) (B : Bx) (e : Expr) (fl : Rho → Option W) : Prop where
  run : ∀ (pins : List (Addr × Obj)) (s : Shared) (σ : L2.St) (H : Hp) (m : Nat → Addr) (h : Hpe) (ρ : Rho) (w : W) (K : Value → Shared → Prop), Inv X pins σ H s → SS B.G B.cf m h ρ σ H → fl ρ = some w →
    (∀ (pins' : List (Addr × Obj)) (H' : Hp) (s' : Shared) (u : Value) (v : V), (∀ p ∈ pins, p ∈ pins') → Inv X pins' σ H' s' → RH B.G m h H' → Mv m h.nx H m h.nx H' → Kt B.G H H' → RelV v u → RM X B σ pins' m h.nx H' w v → K u s') →
    wpAny (model X.prog X.w) X.A (eval e X.env) K X.xe s
section
variable {X : Cx} {B : Bx} {lpos : Pos} {k : Nat}
variable {lv : Nat} {T : Nat → List W → Hpe → Res W} {pins : List (Addr × Obj)} {σ : L2.St} {H : Hp} {m : Nat → Addr} {h : Hpe} {caps : List W} {v : V}
end
end EV
set_option maxHeartbeats 2000000
namespace EV
open PySem PySem.Spec PyProof.Rows L2
noncomputable def noRef (w : W) : Bool :=
  W.rec (motive_1 := fun _ => Bool) (motive_2 := fun _ => Bool) true (fun _ => true) (fun _ => true) (fun _ => true) (fun _ ih => ih) (fun _ => false) (fun _ => true) (fun _ _ _ => false) true (fun _ _ a b => cond a b false) w
noncomputable def noRefs (ws : List W) : Bool :=
  W.rec_1 (motive_1 := fun _ => Bool) (motive_2 := fun _ => Bool) true (fun _ => true) (fun _ => true) (fun _ => true) (fun _ ih => ih) (fun _ => false) (fun _ => true) (fun _ _ _ => false) true (fun _ _ a b => cond a b false) ws
theorem noRefs_c {w : W} {ws : List W} : noRefs (w :: ws) = cond (noRef w) (noRefs ws) false := rfl
section
variable {G : GC} {cf : CF} {m m' : Nat → Addr} {n n' : Nat} {H H' : Hp} {h h' : Hpe}
theorem RW.free {w : W} {v : V} (r : RW G m n H w v) : noRef w = true → RW G m' n' H w v :=
  RW.rec (motive_1 := fun w v _ => noRef w = true → RW G m' n' H w v) (motive_2 := fun ws vs _ => noRefs ws = true → RWs G m' n' H ws vs) (fun _ => .non) (fun b _ => .bl b) (fun i _ => .int i) (fun x _ => .str x) (fun a _ ih e => .tup a (ih e))
    (fun i hi e => by cases e) (fun e _ => .df e) (fun _ => .nil) (fun {w ws v vs} _ _ a b e => by
      rw [noRefs_c] at e
      cases c : noRef w with
      | false => rw [c] at e; cases e
      | true => rw [c] at e; exact .cons (a c) (b e)) r
theorem RWs.free : ∀ {ws : List W} {vs : List V}, RWs G m n H ws vs → noRefs ws = true → RWs G m' n' H ws vs
  | _, _, .nil, _ => .nil
  | w :: _, _, .cons a b, e => by
    rw [noRefs_c] at e
    cases c : noRef w with
    | false => rw [c] at e; cases e
    | true => rw [c] at e; exact .cons (a.free c) (b.free e)
theorem RCs.free : ∀ {ws : List W} {vs : List V}, RCs G cf m n H ws vs → noRefs ws = true → RCs G cf m' n' H ws vs
  | _, _, .nil, _ => .nil
  | w :: _, _, .cons a b, e => by
    rw [noRefs_c] at e
    cases c : noRef w with
    | false => rw [c] at e; cases e
    | true =>
      rw [c] at e
      refine .cons ?_ (b.free e)
      cases a with
      | rw a => exact .rw (a.free c)
      | clo _ _ => cases c
theorem heap_at (c : Addr) (o : Obj) (k : ∀ (a : Value) (b : Option Addr) (d : Array (Option Value)), o ≠ ⟨a, b, .freed, d⟩) : (⟨Array.replicate (c + 1) o, {}⟩ : Heap).get? c = some o := by
  unfold Heap.get?
  have e : (Array.replicate (c + 1) o)[c]? = some o := by rw [Array.getElem?_replicate]; exact if_pos (Nat.lt_succ_self c)
  simp only [e]
  obtain ⟨a, b, d, x⟩ := o
  cases d <;> first | rfl | exact absurd rfl (k _ _ _)
theorem RO.nocode {a : Addr} {o : Ob} {ho : HO} (r : RO G m n H a o ho) (q : Str) : ho ≠ LamX.CodeO a q := by
  intro z
  have hx : ∀ f : Heap → Prop, LamX.CodeO a q = HO.ext f → ∃ h : Heap, ∃ oc vs, h.get? a = some oc ∧ oc.data = .fields vs ∧ f h := by
    intro f e
    refine ⟨⟨Array.replicate (a + 1) (⟨.none, none, .fields #[.none, .str q default], #[]⟩ : Obj), {}⟩, ⟨.none, none, .fields #[.none, .str q default], #[]⟩, #[.none, .str q default], heap_at a _ (fun _ _ _ z => by cases z), rfl, ?_⟩
    unfold LamX.CodeO at e
    have e' := HO.ext.inj e
    rw [← e']
    exact ⟨_, _, default, heap_at a _ (fun _ _ _ z => by cases z), rfl, rfl⟩
  have nc : ∀ {C : Addr} {d : Option Addr}, erO a C d = LamX.CodeO a q → False := fun {C d} z => by
    unfold LamX.CodeO erO at z
    have z' := HO.ext.inj z
    have t : (fun h : Heap => ∃ oc vs t, h.get? a = some oc ∧ oc.data = .fields vs ∧ vs[1]? = some (.str q t)) (⟨Array.replicate (a + 1) (⟨.none, none, .fields #[.none, .str q default], #[]⟩ : Obj), {}⟩ : Heap) := ⟨_, _, default, heap_at a _ (fun _ _ _ z => by cases z), rfl, rfl⟩
    rw [← z'] at t
    obtain ⟨oe, e1, e2, _⟩ := t
    rw [heap_at a _ (fun _ _ _ z => by cases z)] at e1
    cases e1
    cases e2
  cases r with
  | dn _ _ _ _ =>
    obtain ⟨h, oc, vs, e1, e2, _, _, _, _, o, es, ep, e3, _, e4, _⟩ := hx _ z.symm
    rw [e1] at e3; cases e3; rw [e2] at e4; cases e4
  | st _ _ _ =>
    obtain ⟨h, oc, vs, e1, e2, l', es, ep, t, pm, R⟩ := hx _ z.symm
    obtain ⟨o, e3, _, e4⟩ := R.ob
    rw [e1] at e3; cases e3; rw [e2] at e4; cases e4
  | si _ =>
    obtain ⟨h, oc, vs, e1, e2, R⟩ := hx _ z.symm
    obtain ⟨o, _, _, _, e3, _, e4, _⟩ := R
    rw [e1] at e3; cases e3; rw [e2] at e4; cases e4
  | er0 _ => exact nc z
  | er1 _ _ => exact nc z
  | xo =>
    unfold LamX.CodeO dO at z
    have z' := HO.ext.inj z
    have t : (fun h : Heap => ∃ o : Obj, h.get? a = some o) (⟨Array.replicate (a + 1) (⟨.none, none, .dict #[], #[]⟩ : Obj), {}⟩ : Heap) := ⟨_, heap_at a _ (fun _ _ _ z => by cases z)⟩
    rw [z'] at t
    obtain ⟨oc, vs, t2, e1, e2, _⟩ := t
    rw [heap_at a _ (fun _ _ _ z => by cases z)] at e1
    cases e1
    cases e2
  | _ => unfold LamX.CodeO at z; cases z
theorem RH.none (r : RH G m h H) : RH G m Hpe.nil H where
  sz := Nat.zero_le _
  inj := fun i j hi => absurd hi (Nat.not_lt_zero _)
  obj := fun i hi => absurd hi (Nat.not_lt_zero _)
  tab := r.tab
  ltab := fun P hP => let ⟨ps, a, b, c⟩ := r.ltab P hP; ⟨ps, a, b, fun pos cv e => let ⟨d, e1, e2, _⟩ := c pos cv e; ⟨d, e1, e2, fun i hi => absurd hi (Nat.not_lt_zero _)⟩⟩
theorem Mv.stay0 (r : RH G m h H) (mv : Mv m Hpe.nil.nx H m' n' H') {i : Nat} (hi : i < h.nx) {ho : HO} (e : H (m i) = some ho) : H' (m i) = some ho := by
  obtain ⟨o, ho', _, e1, ro⟩ := r.obj i hi
  rw [e] at e1; cases e1
  exact mv.stay e (fun j hj => absurd hj (Nat.not_lt_zero _)) ro.notup.2.2
theorem RH.back (r : RH G m h H) (r' : RH G m' h' H') (mv : Mv m Hpe.nil.nx H m' h'.nx H') : RH G m h H' where
  sz := r.sz
  inj := r.inj
  obj := fun i hi => by
    obtain ⟨o, ho, e1, e2, ro⟩ := r.obj i hi
    exact ⟨o, ho, e1, mv.stay0 r hi e2, ro.mono (fun _ _ => rfl) (Nat.le_refl _) (mv.tupk r.none)⟩
  tab := r'.tab
  ltab := fun P hP => by
    obtain ⟨ps, a, b, c⟩ := r'.ltab P hP
    refine ⟨ps, a, b, fun pos cv e => ?_⟩
    obtain ⟨d, e1, e2, _⟩ := c pos cv e
    refine ⟨d, e1, e2, fun i hi z => ?_⟩
    obtain ⟨o, ho, _, e3, ro⟩ := r.obj i hi
    have e4 := mv.stay0 r hi e3
    rw [z, e2] at e4
    cases e4
    rw [z] at ro
    exact ro.nocode _ rfl
theorem Mv.back (r : RH G m h H) (mv : Mv m Hpe.nil.nx H m' n' H') : Mv m h.nx H m h.nx H' where
  le := Nat.le_refl _
  old := fun _ _ => rfl
  new := fun i a b => absurd b (by omega)
  kp := fun b o e _ => mv.kp b o e fun i hi => absurd hi (Nat.not_lt_zero _)
  kf := fun i hi ob u e => mv.stay0 r hi e
def frm (g : List W → Hpe → Res W) : List W → Hpe → Res W := fun ws h => bif noRefs ws then
    (match g ws Hpe.nil with
    | .ok w _ => bif noRef w then .ok w h else g ws h
    | .ex x _ => bif noRefs (x.fs.map (·.2)) then .ex x h else g ws h
    | .no => .no)
  else g ws h
theorem FnE.frm {P : Program} {w : World} {K : PySem.W.Frag} {mg : Str → Option Value} {base : Heap} {k : Nat} {f : Addr} {fd : FuncData} {ps : List Str} {cl : Cls} {g : List W → Hpe → Res W} (F : FnE P w K mg base k f fd ps G cl g) : FnE P w K mg base k f fd ps G cl (frm g) := by
  refine ⟨fun A outer s H args us vs Q E hr e0 hb r ⟨m, h, ws, rh, rs, e, o⟩ => ?_⟩
  unfold EV.frm at o
  cases c : noRefs ws with
  | false => rw [c] at o; exact F.run A outer s H args us vs Q E hr e0 hb r ⟨m, h, ws, rh, rs, e, o⟩
  | true =>
    rw [c] at o
    simp only [cond_true] at o
    cases q : g ws Hpe.nil with
    | ok w' h' =>
      simp only [q] at o
      cases d : noRef w' with
      | false => rw [d] at o; exact F.run A outer s H args us vs Q E hr e0 hb r ⟨m, h, ws, rh, rs, e, o⟩
      | true =>
        rw [d] at o
        exact F.run A outer s H args us vs Q E hr e0 hb r ⟨m, Hpe.nil, ws, rh.none, rs.free c, e, by rw [q]; exact fun m' H' v rh' mv rw => o m H' v (rh.back rh' mv) (mv.back rh) (rw.free d)⟩
    | ex x h' =>
      simp only [q] at o
      cases d : noRefs (x.fs.map (·.2)) with
      | false => rw [d] at o; exact F.run A outer s H args us vs Q E hr e0 hb r ⟨m, h, ws, rh, rs, e, o⟩
      | true =>
        rw [d] at o
        refine F.run A outer s H args us vs Q E hr e0 hb r ⟨m, Hpe.nil, ws, rh.none, rs.free c, e, ?_⟩
        rw [q]
        refine fun m' H' c' d' rh' mv ⟨x1, x2⟩ => o m H' c' d' (rh.back rh' mv) (mv.back rh) ⟨x1, ?_⟩
        rcases x2 with x2 | ⟨dx, kus, y1, y2, y3, y4⟩
        · exact .inl x2
        · exact .inr ⟨dx, kus, y1, y2, y3, y4.free d⟩
    | no => simp only [q] at o; exact o.elim
end
mutual
def kqW : W → W → Bool
  | .non, .non => true
  | .bl a, .bl b => a == b
  | .int a, .int b => a == b
  | .str a, .str b => a == b
  | .tup a, .tup b => kqWs a b
  | .df a, .df b => Nat.beq a b
  | _, _ => false
def kqWs : List W → List W → Bool
  | [], [] => true
  | a :: x, b :: y => kqW a b && kqWs x y
  | _, _ => false
end
mutual
theorem kqW_t : ∀ {a b : W}, kqW a b = true → a = b
  | .non, .non, _ => rfl
  | .bl a, .bl b, h => by simp only [kqW, beq_iff_eq] at h; rw [h]
  | .int a, .int b, h => by simp only [kqW, beq_iff_eq] at h; rw [h]
  | .str a, .str b, h => by simp only [kqW, beq_iff_eq] at h; rw [h]
  | .tup a, .tup b, h => congrArg _ (kqWs_t (by simpa only [kqW] using h))
  | .df a, .df b, h => by simp only [kqW] at h; rw [Nat.eq_of_beq_eq_true h]
  | .non, .bl _, h | .non, .int _, h | .non, .str _, h | .non, .tup _, h | .non, .ref _, h | .non, .df _, h | .non, .clo _ _, h => by simp [kqW] at h
  | .bl _, .non, h | .bl _, .int _, h | .bl _, .str _, h | .bl _, .tup _, h | .bl _, .ref _, h | .bl _, .df _, h | .bl _, .clo _ _, h => by simp [kqW] at h
  | .int _, .non, h | .int _, .bl _, h | .int _, .str _, h | .int _, .tup _, h | .int _, .ref _, h | .int _, .df _, h | .int _, .clo _ _, h => by simp [kqW] at h
  | .str _, .non, h | .str _, .bl _, h | .str _, .int _, h | .str _, .tup _, h | .str _, .ref _, h | .str _, .df _, h | .str _, .clo _ _, h => by simp [kqW] at h
  | .tup _, .non, h | .tup _, .bl _, h | .tup _, .int _, h | .tup _, .str _, h | .tup _, .ref _, h | .tup _, .df _, h | .tup _, .clo _ _, h => by simp [kqW] at h
  | .df _, .non, h | .df _, .bl _, h | .df _, .int _, h | .df _, .str _, h | .df _, .tup _, h | .df _, .ref _, h | .df _, .clo _ _, h => by simp [kqW] at h
  | .ref _, .non, h | .ref _, .bl _, h | .ref _, .int _, h | .ref _, .str _, h | .ref _, .tup _, h | .ref _, .ref _, h | .ref _, .df _, h | .ref _, .clo _ _, h => by simp [kqW] at h
  | .clo _ _, .non, h | .clo _ _, .bl _, h | .clo _ _, .int _, h | .clo _ _, .str _, h | .clo _ _, .tup _, h | .clo _ _, .ref _, h | .clo _ _, .df _, h | .clo _ _, .clo _ _, h => by simp [kqW] at h
theorem kqWs_t : ∀ {a b : List W}, kqWs a b = true → a = b
  | [], [], _ => rfl
  | _ :: _, _ :: _, h => by
    simp only [kqWs, Bool.and_eq_true] at h
    rw [kqW_t h.1, kqWs_t h.2]
  | [], _ :: _, h => by simp [kqWs] at h
  | _ :: _, [], h => by simp [kqWs] at h
end
def isW (r : Res W) (u : W) : Bool := match r with
  | .ok w _ => kqW w u
  | _ => false
theorem frm_kn {g : List W → Hpe → Res W} {ws : List W} {u : W} (a : noRefs ws = true) (b : noRef u = true) (e : isW (g ws Hpe.nil) u = true) (h : Hpe) : frm g ws h = .ok u h := by
  unfold frm
  rw [a]
  unfold isW at e
  split at e
  · rename_i w h' q
    cases kqW_t e
    rw [q]
    simp only [cond_true, b]
  · cases e
end EV
set_option maxHeartbeats 4000000
namespace EV
open PySem PySem.Spec PyProof.Rows L2
section
variable {X : Cx} {G : GC} {pins : List (Addr × Obj)} {σ : L2.St} {H : Hp} {s : Shared} {m : Nat → Addr} {h : Hpe}
end
section
variable {X : Cx} {B : Bx} {σ : L2.St} {pins : List (Addr × Obj)} {m : Nat → Addr} {H : Hp}
end
section
variable {G : GC} {cf : CF} {m : Nat → Addr} {h : Hpe} {ρ : Rho} {σ : L2.St} {H : Hp}
end
section
variable {X : Cx} {B : Bx} {e : Expr} {es : List Expr} {fl : FL} {name x : Str} {p pos cpos rpos : Pos} {i k n kk : Nat} {g : List W → Hpe → Res W} {t : CTx} {c P : Addr} {params : Arguments} {body : List Stmt} {scope : Scope} {js : List Nat} {ps : List Str}
end
end EV
namespace EV
open PySem PySem.Spec PyProof.Rows L2
section
variable {G : GC} {m m' : Nat → Addr} {h h' : Hpe} {H H' : Hp}
theorem DnR.mono {n n' : Nat} {kvs : List (W × W)} {xs : Dn} (r : DnR G m n H kvs xs) (q : ∀ i, i < n → m' i = m i) (l : n ≤ n') (t : TupK H H') : DnR G m' n' H' kvs xs := ⟨r.1, r.2.1, r.2.2.1.mono q l t, r.2.2.2.mono q l t⟩
variable {i : Nat} {od : Obj} {kvs : List (W × W)} {xs : Dn}
end
section
variable {X : Cx} {B : Bx} {e tg : Expr} {fe : FE} {te : TE} {apos cpos tpos : Pos} {elts : List Expr} {kk : Nat}
end
end EV
namespace EV
open PySem PySem.Spec PyProof.Rows L2 RZ
structure WalkP (prog : Program) (w : World) (A : Around) (I S : Addr) (fp wr : List Addr) (n : Nat) (P : Nat → Value → Value → Prop) (St : Nat → Heap → Prop) : Prop where
  off : S ∉ fp
  sub : ∀ b ∈ wr, b ∈ fp
  frame : ∀ i h h', St i h → (∀ b o, b ≠ S → h.get? b = some o → h'.get? b = some o) → St i h'
  item : ∀ (i : Nat) (s : Shared) (Q : Option Value → Shared → Prop) (E : Value → Shared → Prop), i < n → S < s.heap.objs.size → St i s.heap → (∀ h' tk T a b, s.heap.objs.size ≤ T → IsPair h' T a b → P i a b → St (i + 1) h' → (∀ c o, c ∉ wr → s.heap.get? c = some o → h'.get? c = some o) → Q (some (.ref T)) { s with heap := h', toks := tk }) → wpAny (model prog w) A (pyNext (.ref I)) Q E s
  done : ∀ (s : Shared) (Q : Option Value → Shared → Prop) (E : Value → Shared → Prop), St n s.heap → (∀ h' tk, (∀ c o, c ∉ wr → s.heap.get? c = some o → h'.get? c = some o) → Q none { s with heap := h', toks := tk }) → wpAny (model prog w) A (pyNext (.ref I)) Q E s
  self : ∀ (A' : Around) (i : Nat) (s : Shared) (Q : Value → Shared → Prop) (E : Value → Shared → Prop), St i s.heap → Q (.ref I) s → wpAny (model prog w) A' (pyIter (.ref I)) Q E s
structure Got (P : Nat → Value → Value → Prop) (lo : Addr) (h : Heap) (as : List Addr) : Prop where
  rise : as.Pairwise (· < ·)
  above : ∀ a ∈ as, lo ≤ a
  pairs : ∀ (j : Nat) (a : Addr), as[j]? = some a → ∃ x y, P j x y ∧ IsPair h a x y
theorem Got.there {P : Nat → Value → Value → Prop} {lo : Addr} {h : Heap} {as : List Addr} (g : Got P lo h as) {a : Addr} (ha : a ∈ as) : a < h.objs.size := by
  obtain ⟨j, hj⟩ := List.mem_iff_getElem?.mp ha
  obtain ⟨_, _, _, e⟩ := g.pairs j a hj
  exact Heap.lt_size e
theorem Got.keep {P : Nat → Value → Value → Prop} {lo : Addr} {h h' : Heap} {as : List Addr} (g : Got P lo h as) (k : ∀ a o, lo ≤ a → h.get? a = some o → h'.get? a = some o) : Got P lo h' as :=
  ⟨g.rise, g.above, fun j a hj => let ⟨x, y, p, e⟩ := g.pairs j a hj; ⟨x, y, p, k a _ (g.above a (List.mem_of_getElem? hj)) e⟩⟩
section
variable {prog : Program} {w : World} {A : Around} {s : Shared} {R : Result → Shared → Prop} {I S lo : Addr} {fp wr : List Addr} {n : Nat} {P : Nat → Value → Value → Prop} {St : Nat → Heap → Prop}
end
section
variable {prog : Program} {w : World} {A : Around} {s : Shared}
end
end EV
namespace EV
open PySem PySem.Spec PyProof.Rows L2 RZ
section
variable {G : GC} {m : Nat → Addr} {h : Hpe} {H H' : Hp}
theorem RH.ext (r : RH G m h H) (k : ∀ b o, H b = some o → H' b = some o) : RH G m h H' ∧ Mv m h.nx H m h.nx H' := by
  have tk : TupK H H' := fun a xs q => by
    rcases q with q | ⟨ob, q⟩
    · exact .inl (k _ _ q)
    · exact .inr ⟨ob, k _ _ q⟩
  refine ⟨⟨r.sz, r.inj, fun i hi => ?_, fun P hP => ?_, fun P hP => (r.ltab P hP).keep (fun _ e => k _ _ e) fun b q e nb => ⟨k _ _ e, nb⟩⟩, Nat.le_refl _, fun _ _ => rfl, fun i a b => absurd a (Nat.not_le_of_lt b), fun b o e _ => .inl (k _ _ e), fun i hi ob u e => k _ _ e⟩
  · obtain ⟨o, ho, e1, e2, ro⟩ := r.obj i hi
    exact ⟨o, ho, e1, k _ _ e2, ro.mono (fun _ _ => rfl) (Nat.le_refl _) tk⟩
  · obtain ⟨ps, e, t⟩ := r.tab P hP
    exact ⟨ps, k _ _ e, t⟩
end
section
variable {prog : Program} {w : World} {A : Around} {E : Value → Shared → Prop} {s : Shared} {z TI TO i1 i2 l1 l2 : Addr} {k : Nat} {xs ys : Array Value}
end
end EV
namespace EV
open PySem PySem.Spec PyProof.Rows L2 RZ DX
section
variable {G : GC} {m : Nat → Addr} {n : Nat} {H : Hp}
end
section
variable {X : Cx} {pins : List (Addr × Obj)} {σ : L2.St} {H : Hp} {s : Shared}
end
section
variable {X : Cx} {B : Bx} {a b c : Expr} {ta : TA} {fs : FA} {p p2 pos pos2 : Pos}
end
end EV
namespace EV
open PySem PySem.Spec PyProof.Rows L2 RZ DX PySem
section
variable {prog : Program} {w : World} {A : Around} {E : Value → Shared → Prop} {s : Shared} {e it l S : Addr} {items : Array Value}
end
section
variable {G : GC} {m : Nat → Addr} {n : Nat} {H : Hp}
end
section
variable {X : Cx} {B : Bx} {a c : Expr} {ta : TA} {fs : FA} {p p2 pos pos2 : Pos}
end
end EV
namespace EV
open PySem PySem.Spec PyProof.Rows L2
section
variable {G : GC} {m : Nat → Addr} {n : Nat} {H : Hp}
end
section
variable {X : Cx} {B : Bx} {e : Expr} {fs : FA} {p pos : Pos}
end
end EV
namespace EV
end EV
namespace EV
open PySem PySem.Spec PyProof.Rows L2 PySem.W
section
variable {X : Cx}
end
section
variable {X : Cx} {B : Bx} {e : Expr} {fs : FA} {pos p : Pos}
end
end EV
namespace EV
open PySem PySem.Spec PyProof.Rows L2 RZ
section
variable {prog : Program} {w : World} {A : Around} {E : Value → Shared → Prop} {s : Shared} {z TI TO i1 i2 l1 l2 : Addr} {k : Nat} {xs ys : Array Value}
end
end EV
namespace EV
open PySem PySem.Spec PyProof.Rows L2 RZ
def ZStL (z TI TO i1 i2 l1 l2 : Addr) (k : Nat) (h : Heap) : Prop := ZAny h z TI TO ∧ IsPair h TI (.ref i1) (.ref i2) ∧ (∃ a b, IsPair h TO a b) ∧ h.IsListIter i1 l1 k ∧ h.IsListIter i2 l2 k
section
variable {prog : Program} {w : World} {A : Around} {E : Value → Shared → Prop} {s : Shared} {z TI TO i1 i2 l1 l2 e : Addr} {k : Nat} {xs ys : Array Value}
theorem ZStL.at {h h' : Heap} (st : ZStL z TI TO i1 i2 l1 l2 k h) (kp : ∀ c, c = z ∨ c = TI ∨ c = TO ∨ c = i1 ∨ c = i2 → ∀ o, h.get? c = some o → h'.get? c = some o) : ZStL z TI TO i1 i2 l1 l2 k h' := by
  obtain ⟨⟨f0, fl, hf, hr⟩, h1, ⟨a, b, h2⟩, h3, h4⟩ := st
  exact ⟨⟨f0, fl, hf, kp z (.inl rfl) _ hr⟩, kp TI (.inr (.inl rfl)) _ h1, ⟨a, b, kp TO (.inr (.inr (.inl rfl))) _ h2⟩, h3.at fun o q => kp i1 (by simp) o q, h4.at fun o q => kp i2 (by simp) o q⟩
end
end EV
namespace EV
open PySem PySem.Spec PyProof.Rows L2 RZ
section
variable {X : Cx} {B : Bx} {c a b : Expr} {fs : FA} {p p2 pos pos2 tpos : Pos}
end
end EV
namespace EV
open PySem PySem.Spec PyProof.Rows L2 RZ DX
section
variable {prog : Program} {w : World} {A : Around} {E : Value → Shared → Prop} {s : Shared} {z TI TO i1 i2 l1 l2 : Addr} {k : Nat} {xs ys : Array Value}
end
section
variable {X : Cx} {B : Bx} {a b c : Expr} {ta : TA} {fs : FA} {p p2 pos pos2 : Pos}
end
end EV
namespace EV
open PySem PySem.Spec PyProof.Rows L2
section
variable {X : Cx} {pins : List (Addr × Obj)} {σ : L2.St} {H : Hp} {s : Shared}
end
section
variable {X : Cx} {B : Bx} {e : Expr} {fs : FA} {p pos : Pos}
end
end EV
namespace EV
open PySem PySem.Spec PyProof.Rows L2 RZ
def ItzM (K : PySem.W.Frag) (a b : Addr) : It :=
  ⟨fun i H => ∃ (xs ys : List V) (x y : V), SqL K H a xs ∧ SqT K H b ys ∧ xs[i]? = some x ∧ ys[i]? = some y,
    fun i H v H' => ∃ T x y, v = .ref T ∧ H T = none ∧ H' = upd H T (.tup [x, y]) ∧ (∀ xs, SqL K H a xs → xs[i]? = some x) ∧ ∀ ys, SqT K H b ys → ys[i]? = some y,
    fun i H => ∃ xs ys : List V, SqL K H a xs ∧ SqT K H b ys ∧ i ≤ xs.length ∧ i ≤ ys.length ∧ (i = xs.length ∨ i = ys.length)⟩
theorem turn_zipM {P : Program} {w : World} {K : PySem.W.Frag} {elts : List Expr} {kk : Nat} {tpos : Pos} {a b z TI TO i1 i2 : Addr} (S : ZipSep2 z TI TO i1 i2 [i1, a] [i2, b]) :
    Turn P w K (.Tuple elts kk tpos) (ItzM K a b) [z, TI, TO, i1, i2] z (fun i h => IsZip h z TI TO .none ∧ IsPair h TI (.ref i1) (.ref i2) ∧ (∃ x y, IsPair h TO x y) ∧ h.IsListIter i1 a i ∧ h.IsTupleIter i2 b i) where
  mem := List.mem_cons_self
  obj := fun i h ⟨hz, hTI, ⟨x, y, hTO⟩, ⟨o1, e1, _, d1⟩, ⟨o2, e2, _, d2⟩⟩ c hc => by
    have e' : c = z ∨ c = TI ∨ c = TO ∨ c = i1 ∨ c = i2 := by simpa using hc
    rcases e' with q | q | q | q | q
    · rw [q]; exact ⟨_, hz, fun v q => nomatch q⟩
    · rw [q]; exact ⟨_, hTI, fun v q => nomatch q⟩
    · rw [q]; exact ⟨_, hTO, fun v q => nomatch q⟩
    · rw [q]; exact ⟨o1, e1, fun v q => by rw [d1] at q; cases q⟩
    · rw [q]; exact ⟨o2, e2, fun v q => by rw [d2] at q; cases q⟩
  keep := fun i h h' ⟨hz, hTI, ⟨x, y, hTO⟩, h1, h2⟩ k => ⟨k z (by simp) _ hz, k TI (by simp) _ hTI, ⟨x, y, k TO (by simp) _ hTO⟩, h1.at fun o q => k i1 (by simp) o q, h2.at fun o q => k i2 (by simp) o q⟩
  item := by
    intro X hP hw hK hc i pins s σ H E I hf ⟨hz, hTI, ⟨x0, y0, hTO⟩, h1, h2⟩ ⟨us, vs, x, y, hqx, hqy, hx, hy⟩
    subst hP hw hK
    obtain ⟨its, rv, p, _⟩ := I.list hqx
    obtain ⟨its2, rv2, p2, _⟩ := I.tuple hqy
    obtain ⟨u, hu, ru⟩ := rv.get hx
    obtain ⟨u2, hu2, ru2⟩ := rv2.get hy
    have n1 : a ≠ i1 := fun e => by have := S.sep2_1; have := S.mem1; exact absurd p.isList (fun ⟨o, eo, co, _⟩ => by obtain ⟨o', eo', co', _⟩ := h1; rw [e, eo'] at eo; cases eo; rw [co'] at co; exact absurd co (by decide))
    have n2 : b ≠ i2 := fun e => by obtain ⟨o, eo, co, _⟩ := p2; obtain ⟨o', eo', co', _⟩ := h2; rw [e, eo'] at eo; cases eo; rw [co'] at co; exact absurd co (by decide)
    have lz : z < s.heap.objs.size := Heap.lt_size hz
    have l1 : i < its.toArray.size := by
      rw [List.size_toArray]; exact (List.getElem?_eq_some_iff.mp hu).1
    have l2 : i < its2.toArray.size := by
      rw [List.size_toArray]; exact (List.getElem?_eq_some_iff.mp hu2).1
    have D1 := Draws.list (prog := X.prog) (w := X.w) (A := X.A.in1) (show X.A.in1.handled = none from I.ok.hd hc) i1 a n1 its.toArray
    have D2 := Draws.tuple (prog := X.prog) (w := X.w) (A := X.A.in1) (show X.A.in1.handled = none from I.ok.hd hc) i2 b n2 its2.toArray
    refine wpAny_pyNext_zipD2_item S D1 D2 hz hTI hTO ⟨h1, p.isList⟩ ⟨h2, p2⟩ l1 l2 fun x1 x2 h' tk p1' p2' hz' hTO' st1 st2 hT hsz kp => ?_
    have eu : x1 = u := by
      have z1 : its.toArray[i]? = some x1 := p1'
      rw [List.getElem?_toArray, hu] at z1
      exact (Option.some.inj z1).symm
    have eu2 : x2 = u2 := by
      have z1 : its2.toArray[i]? = some x2 := p2'
      rw [List.getElem?_toArray, hu2] at z1
      exact (Option.some.inj z1).symm
    subst eu eu2
    refine ⟨_, rfl, wpAny_letOwnedTupleGo_zip (s := { s with heap := h', toks := tk }) hz' fun h3 hz3 sb => ?_⟩
    have hT3 : h3.get? s.heap.objs.size = some { cls := .type "tuple", data := .seq #[x1, x2] } := (sb.2 _ (Nat.ne_of_gt lz)).trans hT
    have new : ObjOk X.prog X.w (upd H s.heap.objs.size (.tup [x, y])) h3 s.heap.objs.size (.tup [x, y]) := ⟨by show 2 ≤ sizeLine; decide, [x1, x2], .cons ru (.cons ru2 .nil), ⟨_, hT3, rfl, _, rfl⟩⟩
    have J : Inv X pins σ (upd H s.heap.objs.size (.tup [x, y])) { s with heap := h3, toks := tk } :=
      I.turnedNew (t' := tk) (ch := [z, TI, TO, i1, i2]) (fun c o hb q => (sb.2 c (fun r => hb (by simp [r]))).trans (kp c o (fun r => hb (by simp [r])) (fun r => hb (by simp [r])) (fun r => hb (by simp [r])) (fun r => hb (by simp [r])) q)) hf (Nat.le_refl _) new
    have k3 : ∀ c o, c ≠ z → h'.get? c = some o → h3.get? c = some o := fun c o r q => (sb.2 c r).trans q
    have lt : ∀ c ∈ [z, TI, TO, i1, i2], c < s.heap.objs.size := fun c hc => by
      obtain ⟨o1, e1, _⟩ := h1
      obtain ⟨o2, e2, _⟩ := h2
      have e' : c = z ∨ c = TI ∨ c = TO ∨ c = i1 ∨ c = i2 := by simpa using hc
      rcases e' with q | q | q | q | q <;> rw [q]
      · exact lz
      · exact Heap.lt_size hTI
      · exact Heap.lt_size hTO
      · exact Heap.lt_size e1
      · exact Heap.lt_size e2
    refine ⟨.ref s.heap.objs.size, _, J, rfl, ⟨_, x, y, rfl, I.hok.fresh (Nat.le_refl _), rfl, fun l hl => by rw [I.list_inj hl hqx]; exact hx, fun l hl => by rw [I.tuple_inj hl hqy]; exact hy⟩, ⟨hz3, k3 _ _ S.TIz (kp _ _ S.TIz S.TITO S.TIi1 S.TIi2 hTI), ⟨_, _, k3 _ _ S.TOz hTO'⟩, st1.1.at fun o q => k3 _ o S.zi1.symm q, st2.1.at fun o q => k3 _ o S.zi2.symm q⟩, fun c hcm => ?_⟩
    rw [upd_ne (Nat.ne_of_lt (lt c hcm))]
    exact (hf c hcm).1
  done := by
    intro X hP hw hK hc i pins s σ H E I hf ⟨hz, hTI, ⟨x0, y0, hTO⟩, h1, h2⟩ ⟨us, vs, hqx, hqy, g1, g2, hend⟩
    subst hP hw hK
    obtain ⟨its, rv, p, _⟩ := I.list hqx
    obtain ⟨its2, rv2, p2, _⟩ := I.tuple hqy
    have n1 : a ≠ i1 := fun e => absurd p.isList (fun ⟨o, eo, co, _⟩ => by obtain ⟨o', eo', co', _⟩ := h1; rw [e, eo'] at eo; cases eo; rw [co'] at co; exact absurd co (by decide))
    have n2 : b ≠ i2 := fun e => by obtain ⟨o, eo, co, _⟩ := p2; obtain ⟨o', eo', co', _⟩ := h2; rw [e, eo'] at eo; cases eo; rw [co'] at co; exact absurd co (by decide)
    have l1 := rv.length
    have l2 := rv2.length
    have D1 := Draws.list (prog := X.prog) (w := X.w) (A := X.A.in1) (show X.A.in1.handled = none from I.ok.hd hc) i1 a n1 its.toArray
    have D2 := Draws.tuple (prog := X.prog) (w := X.w) (A := X.A.in1) (show X.A.in1.handled = none from I.ok.hd hc) i2 b n2 its2.toArray
    refine wpAny_pyNext_zipD2_end S D1 D2 hz hTI hTO ⟨h1, p.isList⟩ ⟨h2, p2⟩ (by rw [List.size_toArray]; omega) (by rw [List.size_toArray]; omega) (by rw [List.size_toArray, List.size_toArray]; omega) fun h' tk kp => ⟨rfl, ?_⟩
    exact I.turnedL (t' := tk) (ch := [z, TI, TO, i1, i2]) (fun c o hb q => kp c o (fun r => hb (by simp [r])) (fun r => hb (by simp [r])) (fun r => hb (by simp [r])) (fun r => hb (by simp [r])) q) hf
  self := fun A i s Q E st h => wpAny_pyIter_zip st.1 h
def iZM (K : PySem.W.Frag) (ta : TA) : TI := fun σ H R => ta σ H fun vs H1 => ∃ a b xs ys, vs = [.ref a, .ref b] ∧ SqL K H1 a xs ∧ SqT K H1 b ys ∧ R (ItzM K a b) H1
theorem pi_zipM {X : Cx} {e e2 : Expr} {ta : TA} {p pos tpos : Pos} {elts : List Expr} {kk : Nat} (hg : Gl X "zip") (hm : X.mg "zip" = none) (ha : PA X [e, e2] ta)
    (hs : starEach [e, e2] X.env = (false, eval e X.env) :: starEach [e2] X.env) (hpl : (backTo pos (starEach [e2] X.env)).any (·.1) = false) : PI X (.Tuple elts kk tpos) (.Call (.Name "zip" p) [e, e2] [] pos) (iZM X.K ta) := by
  refine ⟨fun pins s σ H R I h => ?_⟩
  refine Call_ (ld_blt I hg hm PyProof.Rows.boot_zip (PyProof.Rows.callWith_type1 (thn (ha.run pos pins s σ H _ I h) fun us s1 ⟨vs, H1, I1, r1, a, b, xs, ys, ex, hqx, hqy, q⟩ => ?_) hs hpl))
  subst ex
  cases r1 with
  | cons r rr =>
    cases rr with
    | cons r' rr =>
      cases rr
      cases r
      cases r'
      obtain ⟨its, rv, p1, _⟩ := I1.list hqx
      obtain ⟨its2, rv2, p2, _⟩ := I1.tuple hqy
      obtain ⟨o2, ho2, _⟩ := id p2
      refine zip_begins2 (begins_list a its.toArray) (begins_tuple b its2.toArray) p1.isList p2 fun h' hz hTI hTO h1 h2 hsz kp => wpAny_pyIter_zip hz ?_
      have I2 : Inv X pins σ H1 { s1 with heap := h' } := I1.kept (t' := s1.toks) kp
      refine ⟨s1.heap.objs.size + 4, [s1.heap.objs.size + 4, s1.heap.objs.size + 2, s1.heap.objs.size + 3, s1.heap.objs.size, s1.heap.objs.size + 1], _, _, H1, rfl, I2, turn_zipM (zip_sep2 (fp1 := [a]) (fp2 := [b]) (fun c hc => by rw [List.mem_singleton.mp hc]; exact p1.lt) fun c hc => by rw [List.mem_singleton.mp hc]; exact Heap.lt_size ho2), ⟨hz, hTI, ⟨_, _, hTO⟩, ⟨_, h1, rfl, rfl⟩, ⟨_, h2, rfl, rfl⟩⟩, fun c hc => ?_, q⟩
      have e' : c = s1.heap.objs.size + 4 ∨ c = s1.heap.objs.size + 2 ∨ c = s1.heap.objs.size + 3 ∨ c = s1.heap.objs.size ∨ c = s1.heap.objs.size + 1 := by simpa using hc
      have hle : s1.heap.objs.size ≤ c := by rcases e' with r | r | r | r | r <;> rw [r] <;> first | exact Nat.le_add_right _ _ | exact Nat.le_refl _
      exact I1.fpOk hle (I1.hok.fresh hle)
def srcZM (a : Nat) (ys : List W) : Src := fun h i => match rdL h a with
  | some xs => match nthR xs i, nthR ys i with
    | some x, some y => some (some (.tup [x, y]))
    | _, _ => bif (Nat.ble i xs.length && Nat.ble i ys.length) && (Nat.beq i xs.length || Nat.beq i ys.length) then some none else none
  | none => none
theorem its_zipM {G : GC} {m : Nat → Addr} {n k : Nat} {H : Hp} {b : Addr} {vs : List V} {ys : List W} (hk : k < n) (s2 : SqT G.K H b vs) (q2 : RWs G m n H ys vs) : ItS G m n H (srcZM k ys) (ItzM G.K (m k) b) := by
  intro m' h' H' j rh old le tk kf
  simp only [srcZM]
  have s2' := tk.seq s2
  have q2' := q2.mono old le tk
  cases e1 : rdL h' k with
  | none => exact ⟨fun z => (by cases z), fun w z => (by cases z)⟩
  | some xs =>
    obtain ⟨us, s1, q1⟩ := rh.rd (Nat.lt_of_lt_of_le hk le) e1
    rw [old k hk] at s1
    simp only [nthR_eq]
    have fin : ((bif (Nat.ble j xs.length && Nat.ble j ys.length) && (Nat.beq j xs.length || Nat.beq j ys.length) then some none else none : Option (Option W)) = some none → (ItzM G.K (m k) b).stop j H') ∧ ∀ w, (bif (Nat.ble j xs.length && Nat.ble j ys.length) && (Nat.beq j xs.length || Nat.beq j ys.length) then some none else none : Option (Option W)) = some (some w) → (ItzM G.K (m k) b).go j H' ∧ ∀ x H'', (ItzM G.K (m k) b).yld j H' x H'' → RH G m' h' H'' ∧ Mv m' h'.nx H' m' h'.nx H'' ∧ RW G m' h'.nx H'' w x := by
      cases c : ((Nat.ble j xs.length && Nat.ble j ys.length) && (Nat.beq j xs.length || Nat.beq j ys.length)) with
      | false => exact ⟨fun z => (by cases z), fun w z => (by cases z)⟩
      | true =>
        simp only [Bool.and_eq_true, Bool.or_eq_true] at c
        refine ⟨fun _ => ⟨us, vs, s1, s2', ?_, ?_, ?_⟩, fun w z => (by cases z)⟩
        · rw [← q1.len]; exact Nat.le_of_ble_eq_true c.1.1
        · rw [← q2.len]; exact Nat.le_of_ble_eq_true c.1.2
        · rw [← q1.len, ← q2.len]; exact c.2.imp Nat.eq_of_beq_eq_true Nat.eq_of_beq_eq_true
    cases c1 : xs[j]? with
    | none => exact fin
    | some x =>
      cases c2 : ys[j]? with
      | none => exact fin
      | some y =>
        obtain ⟨u, a1, b1⟩ := q1.get c1
        obtain ⟨v, a2, b2⟩ := q2'.get c2
        refine ⟨fun z => (by cases z), fun w z => ?_⟩
        cases z
        refine ⟨⟨us, vs, u, v, s1, s2', a1, a2⟩, fun x' H'' yl => ?_⟩
        obtain ⟨T, p, r, rfl, hT, rfl, f1, f2⟩ := yl
        have := f1 us s1; rw [a1] at this; cases this
        have := f2 vs s2'; rw [a2] at this; cases this
        exact pair_new rh hT b1 b2
section
variable {X : Cx} {B : Bx} {a b : Expr} {fs : FA} {p pos tpos : Pos}
def iZMf (fs : FA) : FI := fun ρ h => (fs ρ h).bind fun ws h1 => match ws with
  | [.ref i, .tup ys] => match rdL h1 i with
    | some _ => .ok (srcZM i ys) h1
    | none => .no
  | _ => .no
theorem si_zipM {elts : List Expr} {kk : Nat} (hK : X.K = B.G.K) (hg : Gl X "zip") (hm : X.mg "zip" = none) (ha : SA X B [a, b] fs) (hs : starEach [a, b] X.env = (false, eval a X.env) :: starEach [b] X.env) (hpl : (backTo pos (starEach [b] X.env)).any (·.1) = false) :
    SI X B (.Tuple elts kk tpos) (.Call (.Name "zip" p) [a, b] [] pos) (iZMf fs) :=
  pi_imp (pi_zipM hg hm ha hs hpl) fun σ H R ⟨m, h, ρ, s, o⟩ => ⟨m, h, ρ, s, (Out.bind s.rh o).mono fun vs H1 ⟨ws, m1, h1, r1, v1, q1, o1⟩ => by
    match ws, o1 with
    | [.ref i, .tup ys], o1 =>
      obtain ⟨v, u, rfl, ra, rb⟩ := rws_two q1
      obtain ⟨rfl, hi⟩ := rw_ref ra
      obtain ⟨b, vs, rfl, s2, z2⟩ := rw_tup rb
      dsimp only at o1
      cases e1 : rdL h1 i with
      | none => rw [e1] at o1; exact o1.elim
      | some xs =>
        rw [e1] at o1
        obtain ⟨us, s1, _⟩ := r1.rd hi e1
        exact ⟨_, b, us, vs, rfl, by rw [hK]; exact s1, by rw [hK]; exact s2, by rw [hK]; exact o1 m1 H1 _ r1 Mv.refl (its_zipM hi s2 z2)⟩⟩
def ltR (fs : FA) : Rho → Hpe → Bool := fun ρ h => match fs ρ h with
  | .ok [.ref _, .tup _] _ => true
  | _ => false
end
end EV
namespace EV
open PySem PySem.Spec PyProof.Rows L2
theorem rel_any {sc : Scope} {env : Env} : relabel sc env = relS sc env.scope := rfl
structure SVt (X : Cx) (B : Bx) (es : List Expr) (f : FL) : Prop where
  run : ∀ (pos : Pos) (pins : List (Addr × Obj)) (s : Shared) (σ : L2.St) (H : Hp) (m : Nat → Addr) (h : Hpe) (ρ : Rho) (ws : List W) (K : List Value → Shared → Prop), Inv X pins σ H s → SS B.G B.cf m h ρ σ H → f ρ h = some ws →
    (∀ (s' : Shared) (us : List Value) (vs : List V), Inv X pins σ H s' → Vals vs us → RCs B.G B.cf m h.nx H ws vs → K us s') → wpAny (model X.prog X.w) X.A (spliced (backTo pos (starEach es X.env))) K X.xe s
structure SVC (X : Cx) (B : Bx) (es : List Expr) (f : FA) : Prop where
  run : ∀ (pos : Pos) (pins : List (Addr × Obj)) (s : Shared) (σ : L2.St) (H : Hp) (m : Nat → Addr) (h : Hpe) (ρ : Rho) (K : List Value → Shared → Prop), Inv X pins σ H s → SS B.G B.cf m h ρ σ H →
    (match f ρ h with
      | .ok ws h' => ∀ (m' : Nat → Addr) (H' : Hp) (s' : Shared) (us : List Value) (vs : List V), Inv X pins σ H' s' → RH B.G m' h' H' → Mv m h.nx H m' h'.nx H' → Vals vs us → RCs B.G B.cf m' h'.nx H' ws vs → K us s'
      | .ex x h' => ∀ m' H' c d, RH B.G m' h' H' → Mv m h.nx H m' h'.nx H' → ExR B.G B.cl m' h'.nx H' x c d → B.W c d σ H'
      | .no => False) → wpAny (model X.prog X.w) X.A (spliced (backTo pos (starEach es X.env))) K X.xe s
section
variable {X : Cx} {B : Bx} {e : Expr} {es : List Expr} {f : FL} {fe : FE} {fs : FA} {x : Str} {p pos : Pos} {i k n : Nat} {g : List W → Hpe → Res W}
end
end EV
namespace EV
open PySem PySem.Spec PyProof.Rows L2
section
variable {X : Cx} {B : Bx} {o value e : Expr} {es : List Expr} {name x : Str} {pos tpos p : Pos} {fo fv : FE} {fs : FA} {fl : FL} {cs : List Nat} {i : Nat}
end
end EV
namespace EV
open PySem PySem.Spec PyProof.Rows L2
def tDet (σ0 : L2.St) (H0 : Hp) (v : V) : TE := fun σ H Q => σ = σ0 ∧ H = H0 ∧ Q v H0
abbrev FQ := Rho → Hpe → Option W
structure SQ (X : Cx) (B : Bx) (e : Expr) (q : FQ) : Prop where
  run : ∀ (m : Nat → Addr) (h : Hpe) (ρ : Rho) (σ : L2.St) (H : Hp) (w : W), SS B.G B.cf m h ρ σ H → q ρ h = some w → ∃ v, PE X e (tDet σ H v) ∧ RC B.G B.cf m h.nx H w v
section
variable {X : Cx} {B : Bx} {a b e : Expr} {es : List Expr} {f : FL} {q : FQ} {x name : Str} {pos p : Pos} {i : Nat} {cs : List Nat}
end
section
variable {X : Cx} {B : Bx} {es : List Expr} {fs : FA} {x : Str} {p : Pos} {i : Nat}
end
end EV
namespace EV
open PySem PySem.Spec PyProof.Rows L2
section
variable {X : Cx} {pins : List (Addr × Obj)} {σ : L2.St} {H : Hp} {s : Shared} {a b : Addr} {xs : Dn} {k : NestedKey} {A : Around} {E : Value → Shared → Prop} {od : Obj}
end
def rdF (h : Hpe) (n : Nat) : Option (List (W × W)) := match h.get n with
  | some (.fn kvs) => some kvs
  | _ => none
section
variable {X : Cx} {G : GC} {m : Nat → Addr} {h : Hpe} {H : Hp}
theorem RH.fn (r : RH G m h H) {i : Nat} {kvs : List (W × W)} (hi : i < h.nx) (e : rdF h i = some kvs) : ∃ od xs, H (m i) = some (.frz od (dnO G.prog G.wo (m i) xs)) ∧ DnR G m h.nx H kvs xs := by
  obtain ⟨o, ho, q1, q2, q3⟩ := r.obj i hi
  unfold rdF at e
  rw [q1] at e
  cases q3 with
  | fn a b c d => cases e; exact ⟨_, _, q2, a, b, c, d⟩
  | _ => cases e
end
section
variable {X : Cx} {B : Bx} {a b : Expr} {fa fb : FE} {pos : Pos}
end
section
variable {X : Cx}
end
section
variable {X : Cx} {B : Bx} {e : Expr} {fs : FA} {p pos : Pos}
end
end EV
namespace EV
open PySem PySem.Spec PyProof.Rows L2
section
variable {X : Cx} {pins : List (Addr × Obj)} {σ : L2.St} {H : Hp} {s : Shared}
end
section
variable {G : GC} {m : Nat → Addr} {n : Nat} {H : Hp}
end
section
variable {X : Cx} {B : Bx} {e : Expr} {fs : FA} {p pos : Pos}
end
end EV
namespace EV
open PySem PySem.Spec PyProof.Rows L2
section
variable {A : Around} {elt tg iter tg1 iter1 : Expr} {ifs ifs1 : List Expr} {scope : Scope} {pos : Pos} {it it1 acc : Value} {env : Env} {k : Result → Sem PySem.Fin} {g : Bool} {l : List Value} {p : Pos}
end
end EV
namespace EV
open PySem PySem.Spec PyProof.Rows L2
section
variable {prog : Program} {w : World} {A : Around} {elt tg iter tg1 iter1 : Expr} {ifs ifs1 : List Expr} {scope : Scope} {pos : Pos} {it : Value} {cenv : Env} {ι : Type}
end
end EV
namespace EV
open PySem PySem.Spec PyProof.Rows L2
section
variable {prog : Program} {w : World} {A : Around} {elt tg iter tg1 iter1 : Expr} {ifs ifs1 : List Expr} {scope : Scope} {pos : Pos} {it : Value} {cenv : Env} {ι : Type}
end
end EV
namespace EV
open PySem PySem.Spec PyProof.Rows L2 GxR
section
variable {M : Model} {A : Around} {E : Value → Shared → Prop} {s : Shared} {env : Env} {elt tg iter tg1 iter1 : Expr} {ifs ifs1 : List Expr} {scope : Scope} {cl : List (Str × Addr)} {pos : Pos} {Q : Value → Shared → Prop}
end
end EV
namespace EV
open PySem PySem.Spec PyProof.Rows L2 GxR
structure Ix2 where
  it : Addr
  fp : List Addr
  tn : Nat → Heap → Prop
  J : It
  W : Nat → Nat → Hp → Prop
  i : Nat
  sg : L2.St
  h : Heap
section
variable {Y : Cx} {tg tg1 elt iter iter1 : Expr} {ifs ifs1 : List Expr} {al : Bool} {wi1 : TI} {g g1 : TG} {tt tt1 : TT} {te : TE} {fp : List Addr} {it : Addr} {tn : Nat → Heap → Prop} {J : It} {W : Nat → Nat → Hp → Prop} {Q0 Q1 : Hp → Prop} {σ : L2.St} {vs vs1 : List Nat} {Fin Stop : Shared → Prop}
end
end EV
namespace EV
open PySem PySem.Spec PyProof.Rows L2 GxR
section
variable {X : Cx} {c P : Addr} {elt tg iter tg1 iter1 : Expr} {ifs ifs1 : List Expr} {scope : Scope} {own : List (Str × Nat)} {gpos : Pos} {wi wi1 : TI} {g g1 : TG} {tt tt1 : TT} {te : TE} {k : Nat} {vs1 : List Nat}
end
end EV
namespace EV
open PySem PySem.Spec PyProof.Rows L2 GxR
section
variable {X : Cx} {B : Bx} {tg tg1 elt iter iter1 : Expr} {ifs ifs1 : List Expr} {fe : FE} {ft ft1 : FT} {fi fi1 : FI} {g g1 : FG} {us us1 vs vs1 : List Nat} {c P : Addr} {scope : Scope} {own : List (Str × Nat)} {p pos gpos : Pos} {k : Nat}
end
end EV
namespace EV
open PySem PySem.Spec PyProof.Rows L2
section
variable {X : Cx} {pins : List (Addr × Obj)} {σ : L2.St} {H : Hp} {s : Shared} {a : Addr} {vs : List V}
end
section
variable {X : Cx} {o : Expr} {p pos apos mpos : Pos} {td : TE}
end
section
variable {X : Cx} {B : Bx} {o : Expr} {p pos apos mpos : Pos} {fo : FE}
end
end EV
namespace EV
open PySem PySem.Spec PyProof.Rows L2
section
variable {X : Cx} {B : Bx} {tg a b c : Expr} {fs : FA} {p : Pos}
end
end EV
namespace EV
open PySem PySem.Spec PyProof.Rows L2
section
variable {X : Cx} {B : Bx} {o : Expr} {to : TE} {fo : FE} {name : Str} {pos : Pos} {cs : List Nat}
end
end EV
namespace EV
open PySem PySem.Spec PyProof.Rows L2
section
variable {X : Cx} {B : Bx} {e : Expr} {es : List Expr} {fl : FL} {name x : Str} {p pos cpos rpos : Pos} {i k n kk : Nat} {g : List W → Hpe → Res W} {t : CTx} {c P : Addr} {params : Arguments} {body : List Stmt} {scope : Scope} {js : List Nat} {ps : List Str}
end
end EV
namespace EV
open PySem PySem.Spec PyProof.Rows L2
section
variable {X : Cx}
end
section
variable {X : Cx} {B : Bx} {e : Expr} {fs : FA} {p pos : Pos}
end
end EV
namespace EV
open PySem
theorem us0 {p : List Value → Prop} {us : List Value} (h : us.length = 0) (f : p []) : p us := by
  cases us with
  | nil => exact f
  | cons _ _ => cases h
theorem us1 {p : List Value → Prop} {us : List Value} (h : us.length = 1) (f : ∀ a0 : Value, p [a0]) : p us := by
  cases us with
  | nil => cases h
  | cons a us => exact us0 (p := fun us => p (a :: us)) (Nat.succ.inj h) (f a)
end EV
namespace EV
open PySem PySem.Spec PyProof.Rows L2
section
variable {prog : Program} {w : World} {A : Around} {E : Value → Shared → Prop} {s : Shared} {T : String} {r d : Addr} {n : Nat} {P : Nat → Value → Prop} {OK : Heap → Prop}
end
section
variable {X : Cx}
end
section
variable {X : Cx} {B : Bx} {e : Expr} {fs : FA} {pos p : Pos}
end
end EV
namespace EV
open PySem PySem.Spec PyProof.Rows L2
end EV
namespace EV
open PySem PySem.Spec PyProof.Rows L2
section
variable {X : Cx}
end
section
variable {X : Cx} {B : Bx} {e : Expr} {fs : FA} {pos p : Pos}
end
end EV
namespace EV
open PySem PySem.Spec PyProof.Rows L2 RZ
def ItzT (K : PySem.W.Frag) (a b : Addr) : It :=
  ⟨fun i H => ∃ (xs ys : List V) (x y : V), SqT K H a xs ∧ SqL K H b ys ∧ xs[i]? = some x ∧ ys[i]? = some y,
    fun i H v H' => ∃ T x y, v = .ref T ∧ H T = none ∧ H' = upd H T (.tup [x, y]) ∧ (∀ xs, SqT K H a xs → xs[i]? = some x) ∧ ∀ ys, SqL K H b ys → ys[i]? = some y,
    fun i H => ∃ xs ys : List V, SqT K H a xs ∧ SqL K H b ys ∧ i ≤ xs.length ∧ i ≤ ys.length ∧ (i = xs.length ∨ i = ys.length)⟩
section
variable {X : Cx} {B : Bx} {a b : Expr} {fs : FA} {p pos tpos : Pos}
end
end EV
namespace EV
open PySem PySem.Spec PyProof.Rows L2
section
variable {h h1 h2 : Hpe} {n : Nat} {i j : Int} {ws : List W} {w : W} {ρ : Rho}
theorem rdL_of (g : h.get n = some (.lst ws)) : rdL h n = some ws := by
  unfold rdL
  rw [g]
theorem new_get (o : Ob) (p : h.nx + 1 < 2199023255552) : (h.new o).get h.nx = some o := put_same 41 h.t h.nx o p
theorem new_old (o : Ob) {k : Nat} (p : k ≠ h.nx) : (h.new o).get k = h.get k := put_ne 41 h.t h.nx k o p
end
theorem forE_end {src : Src} {g : FG} {b : FS} {k i : Nat} {ρ : Rho} {h : Hpe} (e : src h i = some none) : forE src g b (k + 1) i ρ h = .nx ρ h := by
  rw [forE, e]
section
variable (o : Ob) (x z y i : Int) (sl : List W) (u3 u4 u5 : Option W) (w : W)
end
theorem lst_ok {fs : FA} {ρ : Rho} {ws : List W} {h h1 : Hpe} (e : fs ρ h = .ok ws h1) (l : line ws.length = true) : eLst fs ρ h = h1.al (.lst ws) := by
  unfold eLst
  rw [e]
  show (bif line ws.length then h1.al (.lst ws) else .no) = _
  rw [l]
  rfl
end EV
namespace EV
open PySem PySem.Spec PyProof.Rows L2
section
variable {T : Nat → List W → Hpe → Res W} {kb kc kt : Nat}
def UrnAt (h : Hpe) (n : Nat) (c : Int) : Prop := ∃ a b c' : Int, h.get n = some (.lst [.int a, .int b, .int c']) ∧ 0 ≤ c' ∧ c' ≤ c
end
end EV
namespace EV
open PySem PySem.Spec PyProof.Rows L2
section
variable {T : Nat → List W → Hpe → Res W} {kb kc kt : Nat}
end
end EV
namespace EV
open PySem PySem.Spec PyProof.Rows L2
section
variable {X : Cx} {B : Bx} {pos : Pos}
theorem se_w (i : Nat) {x : Str} (hN : X.N[i]? = some x := by rfl) (hv : Vis X.env.scope x := by first | exact Or.inl rfl | exact Or.inr (Or.inl rfl) | exact Or.inr (Or.inr rfl)) (hd : (x == ("__debug__" : Str)) = false := by decide) (hcd : (x == ("__classdict__" : Str)) = false := by decide) : SE X B (.Name x pos) (eV i) := se_v i hN hv hd hcd
end
end EV
namespace EV
open PySem PySem.Spec PyProof.Rows L2
section
variable {X : Cx} {B : Bx} {k lv i n : Nat} {T : Nat → List W → Hpe → Res W} {g : List W → Hpe → Res W} {x : Str} {p pos : Pos} {e : Expr} {es : List Expr} {fs : FA}
end
end EV
namespace EV
open PySem PySem.Spec PyProof.Rows L2
def blankO : Option W → Option W
  | some w => bif noRef w then some w else none
  | none => none
def blankR (ρ : Rho) : Rho := ρ.map blankO
section
variable {G : GC} {cf : CF} {m : Nat → Addr} {h : Hpe} {H : Hp} {ρ : Rho} {σ : L2.St}
theorem SS.blank (s : SS G cf m h ρ σ H) : SS G cf m Hpe.nil (blankR ρ) σ H where
  rh := s.rh.none
  len := by unfold blankR; rw [List.length_map]; exact s.len
  sl := fun i w e => by
    unfold blankR at e
    rw [List.getElem?_map] at e
    cases q : ρ[i]? with
    | none => rw [q] at e; cases e
    | some o =>
      rw [q] at e
      cases o with
      | none => cases e
      | some w0 =>
        simp only [Option.map_some, blankO] at e
        cases d : noRef w0 with
        | false => rw [d] at e; cases e
        | true =>
          rw [d] at e
          cases e
          obtain ⟨v, e1, r⟩ := s.sl i w q
          refine ⟨v, e1, ?_⟩
          cases r with
          | rw r => exact .rw (r.free d)
          | clo _ _ => cases d
variable {X : Cx} {B : Bx} {e : Expr} {f : FE}
end
end EV
namespace EV
open PySem PySem.Spec PyProof.Rows L2
section
variable {X : Cx} {pins : List (Addr × Obj)} {σ : L2.St} {H : Hp} {s : Shared} {a C dx : Addr} {B newId initId : String} {bm : List Value}
def tXo (K : PySem.W.Frag) (n : Str) (te : TE) : TE := fun σ H Q => te σ H fun x H1 => ∃ (a C dx : Addr) (fs : List (Str × L2.V)) (v : L2.V), x = .ref a ∧ L2.XfC K C ∧ PySem.W.findIn K (.ref C) n = some none ∧ H1 a = some (exo a C (some dx)) ∧ H1 dx = some (exd dx fs) ∧ fs.lookup n = some v ∧ Q v H1
theorem pe_xo {e : Expr} {te : TE} {pos : Pos} {n : Str} (he : PE X e te) (hb : attributeBase e n X.env (eval e X.env) = eval e X.env) : PE X (.Attribute e n pos) (tXo X.K n te) := by
  refine ⟨fun pins s σ H Q I h => ?_⟩
  refine attr_of hb (thn (he.run pins s σ H _ I h) fun u s1 ⟨x, H1, I1, rx, a, C, dx, fs, v, ex, T, hno, ea, ed, l, q⟩ => ?_)
  subst ex
  obtain rfl : u = Value.ref a := rx
  obtain ⟨t1, ho⟩ := exo_at I1.hok ea
  obtain ⟨mA, hns, hr⟩ := exd_at I1.hok ed
  obtain ⟨od, h1, hl⟩ := lookIn_ns hns
  obtain ⟨u, hu, ru⟩ := RelO.some_of (v := v) (o := mA n) (by rw [← l]; exact hr n)
  exact HandSPX.exc_get I1.kIn (⟨ho, rfl, rfl, h1⟩ : PySem.W.InstAt s1.heap a _ C (some od)) T.ga T.gg T.exC (PySem.W.findObj_own T.hdC hno rfl (by rw [hl, hu])) (handed_of ru) ⟨v, H1, I1.tok _, ru, q⟩
theorem oinit_old {us : List Value} {E : Value → Shared → Prop} {A : Around} {Q : Value → Shared → Prop} (BE : BaseE B newId initId bm) (T : OwnE X.K C newId bm) (I : Inv X pins σ H s) (e : H a = some (exo a C (some dx))) (hl : us.length ≤ sizeLine) (h : ∀ s', Inv X pins σ H s' → Q .none s') :
    wpAny (model X.prog X.w) A (call (.builtin initId) (.ref a :: us)) Q E s := by
  obtain ⟨nm, q, N, bs, sn, sub, ab, col, dd, k0, k1, k2, k3, k5, hC⟩ := T.cls
  obtain ⟨t1, ho⟩ := exo_at I.hok e
  obtain ⟨hp, g, d, t, os⟩ := s
  refine wpAny_call (codeAny_call_builtin BE.fb.init.plain BE.fb.initEntry (HandSPX.check_init_own BE.fb (fun Y => rfl) (I.kIn _ _ hC) ho rfl ?_))
  wp_walk
  have hx : ((hp.push (PySem.W.kdv_tup us)).update a (Obj.mapFields (·.setIfInBounds 0 (Value.ref hp.objs.size)))).get? a = some ({ cls := .ref C, dict := some dx, data := .fields #[.ref hp.objs.size, .none, .none, .none, .bool false, .none] } : Obj) := by
    rw [Heap.get?_update_self _ (Heap.get?_push_of_some _ ho) rfl]
    rfl
  have J := I.write (t' := t) (x := a) (e := a) (o := exo a C (some dx)) (by rw [e]; exact True.intro) (.inl rfl) (fun b o hb hq => (Heap.get?_update_other _ _ (Ne.symm hb)).trans (Heap.get?_push_of_some _ hq)) ⟨_, hx⟩ (exo_ok hx)
  have eu : upd H a (exo a C (some dx)) = H := by
    funext b
    by_cases hb : b = a
    · rw [hb, upd_same, e]
    · rw [upd_ne hb]
  rw [eu] at J
  exact h _ J
end
def tBi2 (K : PySem.W.Frag) (newId : String) (bm : List Value) (ta : TA) : TE := fun σ H Q => ta σ H fun vs H1 => ∃ (a C dx : Addr) (ws : List L2.V), vs = .ref a :: ws ∧ ws.length ≤ 1000 ∧ OwnE K C newId bm ∧ H1 a = some (exo a C (some dx)) ∧ Q .non H1
section
variable {X : Cx} {e : Expr} {es : List Expr} {ta : TA} {x : Str} {p1 p2 pos : Pos} {B newId initId : String} {bm : List Value}
theorem pe_binit2 {pl : Sem Bool} (BE : BaseE B newId initId bm) (hg : Gl X x) (hm : X.mg x = none) (hv : bootBuiltins x = some (.type B)) (hnn : x ≠ "__name__") (hdb : (x == ("__debug__" : Str)) = false) (hstub : Manifest.isStub B = false) (hh : PySem.W.handedIn (.builtin initId) = true)
    (vV : PySem.W.findCls X.K (.type B) (.type "type") "__init__" = some (.val (.builtin initId))) (ha : PA X (e :: es) ta)
    (hc : eval (.Call (.Attribute (.Name x p1) "__init__" p2) (e :: es) [] pos) X.env = (do
      let ov ← eval (.Name x p1) X.env
      standAt p2.atName
      let (f, first) ← holding [ov] (getMethod ov "__init__" pl)
      callWith pos f first (backTo pos (starEach (e :: es) X.env)) (backToKw pos (keywordEach [] X.env))))
    (he : starEach (e :: es) X.env = (false, eval e X.env) :: starEach es X.env) (hpl : (backTo pos (starEach es X.env)).any (·.1) = false) :
    PE X (.Call (.Attribute (.Name x p1) "__init__" p2) (e :: es) [] pos) (tBi2 X.K newId bm ta) := by
  refine ⟨fun pins s σ H Q I h => ?_⟩
  refine PySem.W.methodCall_KW (ld_blt I hg hm hv ?_ hnn hdb) hc
  obtain ⟨m, fr⟩ := I.fr
  refine PySem.W.method_type fr I.ok.mod.kin BE.ty hstub vV hh ?_
  show wpAny _ _ (callWith pos (Value.builtin initId) [] (backTo pos (starEach (e :: es) X.env)) []) _ _ _
  refine PyProof.Rows.callWith_method1 (thn (ha.run pos pins _ σ H _ (I.tok _) h) fun us s1 ⟨vs, H1, I1, r1, a, C, dx, ws, ev, hl, T, ea, q⟩ => ?_) he hpl
  subst ev
  cases r1 with
  | @cons _ u0 _ ur ra rw' =>
    obtain rfl : u0 = Value.ref a := ra
    have hlen : ur.length ≤ sizeLine := by
      rw [← Paired.length rw', sizeLine_eq]
      omega
    exact oinit_old BE T I1 ea hlen fun s' J => ⟨.non, H1, J, rfl, q⟩
end
theorem repr_ints {prog : Program} {w : World} : ∀ {l : List Int} {its : List Value}, Vals (l.map L2.V.int) its → (∀ y ∈ l, y.natAbs.log2 < 1920) → ReprAll prog w its (l.map fun i => (Str.ofString (toString i)))
  | [], _, r, _ => by
    cases r
    exact .nil
  | y :: l, _, r, h => by
    cases r with
    | cons r1 r2 =>
      obtain ⟨t, rfl⟩ := r1
      exact .cons (ReprIs.int t (h y List.mem_cons_self)) (repr_ints r2 fun z hz => h z (List.mem_cons_of_mem _ hz))
theorem piled_ints : ∀ l : List Int, (∀ y ∈ l, y.natAbs.log2 < 1920) → piled (l.map fun i => (Str.ofString (toString i))) ≤ 1930 * l.length
  | [], _ => Nat.zero_le _
  | y :: l, h => by
    have h1 : (Str.ofString (toString y)).length ≤ 1921 := by rw [PySem.ofString_length]; exact int_text_length_le (by decide) (h y List.mem_cons_self)
    have h2 := piled_ints l fun z hz => h z (List.mem_cons_of_mem _ hz)
    rw [List.map_cons, piled_cons, List.length_cons]
    omega
def tFmtN (K : PySem.W.Frag) (te : TE) : TE := fun σ H Q => te σ H fun x H1 => ∃ (a : Addr) (l : List Int), x = .ref a ∧ SqT K H1 a (l.map L2.V.int) ∧ (∀ y ∈ l, y.natAbs.log2 < 1920) ∧ l.length ≤ 1000 ∧ ∀ m : Str, m.length ≤ 2000000 → Q (.str m) H1
theorem pe_fmtN {X : Cx} {e : Expr} {te : TE} {pos : Pos} (hu : X.A.units + 2 < cLine) (he : PE X e te) : PE X (.FormattedValue e (-1) none pos) (tFmtN X.K te) := by
  refine ⟨fun pins s σ H Q I h => ?_⟩
  refine wpAny_FormattedValue_plain (thn (he.run pins s σ H _ I h) fun v s1 ⟨x, H1, I1, r1, a, l, ex, ht, hc, hz, q⟩ => ?_)
  subst ex
  cases r1
  obtain ⟨its, rv, ⟨o, ho, hcl, n, hd⟩, _⟩ := I1.tuple ht
  have hp := piled_ints l hc
  have htx := fmt_text (l.map fun i => (Str.ofString (toString i)))
  have sl : (sizeLine : Nat) = 16777216 := by decide
  exact fmt_tuple (ts := l.map fun i => (Str.ofString (toString i))) hu ho hcl hd (repr_ints rv hc) (by rw [sl]; omega) fun m u tk hm => ⟨.str m, H1, I1.tok _, ⟨u, rfl⟩, q m (by omega)⟩
def spT (K : PySem.W.Frag) (C : Addr) (f : Str) : Sp := fun vs H Q _ => ∃ (a b : Addr) (l : List Int), vs = [.ref a, .ref b] ∧ SqT K H b (l.map L2.V.int) ∧ (∀ y ∈ l, y.natAbs.log2 < 1920) ∧ l.length ≤ 1000 ∧ H a = some (exo a C none) ∧
  ∀ dx, H dx = none → dx ≠ a → Q .non (upd (upd H dx (exd dx [(f, .ref b)])) a (exo a C (some dx)))
def tTup (K : PySem.W.Frag) (t : TE) : TE := tCB (fun xs H Q => ∃ p ys, xs = [L2.V.ref p] ∧ ((SqL K H p ys ∧ ∀ (l : Addr), H l = none → Q (L2.V.ref l) (upd H l (HO.tup ys))) ∨ SqT K H p ys ∧ Q (L2.V.ref p) H)) (tCons t tNil)
theorem pe_tup1 {X : Cx} {e : Expr} {t : TE} {p pos : Pos} (hm : X.mg "tuple" = none) (hg : Gl X "tuple") (he : PE X e t) (h3 : starEach [e] X.env = (false, eval e X.env) :: starEach [] X.env) (h4 : (backTo pos (starEach [] X.env)).any (·.1) = false) :
    PE X (.Call (.Name "tuple" p) [e] [] pos) (tTup X.K t) := pe_callTy call_tuple_of hg hm (by decide +kernel) (pa_cons he pa_nil h3) (by decide) (by decide) h3 h4
def tIniT (K : PySem.W.Frag) (newId : String) (bm : List Value) (fld a : Str) : TS :=
  tSeq (tOs1 K newId bm fld (tVar 0) (tTup K (tVar 1))) (tSeq (tDrop (tBi2 K newId bm (tCons (tVar 0) (tCons (fun σ H Q => tJs [L2.tC (.str a), tFmtN K (tXo K fld (tVar 0))] Str.empty σ H fun out H1 => Q (.str out) H1) tNil)))) tNext)
theorem ok_IT {P : Program} {w : World} {K : PySem.W.Frag} {mg : Str → Option Value} {base : Heap} {qual p fld tx : Str} {st : Stmt} {fI C : Addr} {fd : FuncData} {newId : String} {bm : List Value}
    (F : Fun K "__init__" qual st fI fd) (S : FnScope ["self", p] ["self", p] (defScope st)) (T : OwnE K C newId bm) (V : L2.XfC K C) (hno : PySem.W.findIn K (.ref C) fld = some none) (ht : tx.length ≤ 1000)
    (hbody : ∀ (cdv : Value) (A : Around) (outer : List PySem.Env) (s : Shared) (H : Hp) (E : XK), Room 0 (A.deeper (envOfC qual (defScope st) s.heap.objs.size fI cdv)) → PSs (cxOf (L2.CX P w) P w K mg base ["self", p] qual (defScope st) fI cdv A outer s H E) (defBody st) (tIniT K newId bm fld tx)) :
    FnOk P w K mg base (L2.CX P w) 1 fI fd ["self", p] (spT K C fld) := by
  refine F.okX (k := 0) S (fun vs H Q E ⟨a, b, l, ev, _⟩ => by rw [ev]; rfl) (fun cdv A outer s H vs Q E hr ⟨a, b, l, ev, sq, hi, hl, ea, q⟩ => ⟨_, hbody cdv A outer s H E hr, ?_⟩)
  subst ev
  refine ⟨.ref b, rfl, b, _, rfl, .inr ⟨sq, .ref a, rfl, a, C, rfl, T, hno, ea, fun dx n ne => ?_⟩⟩
  have tk : TupK H (upd (upd H dx (exd dx [(fld, L2.V.ref b)])) a (exo a C (some dx))) := fun c xs z => by
    have h1 : c ≠ a := fun y => by
      rw [y] at z
      rcases z with z | ⟨o, z⟩ <;> rw [ea] at z
      · exact exo_tup (Option.some.inj z)
      · exact exo_frz (Option.some.inj z)
    have h2 : c ≠ dx := fun y => by
      rw [y] at z
      rcases z with z | ⟨o, z⟩ <;> (rw [n] at z; cases z)
    rcases z with z | ⟨o, z⟩
    · exact .inl (by rw [upd_ne h1, upd_ne h2]; exact z)
    · exact .inr ⟨o, by rw [upd_ne h1, upd_ne h2]; exact z⟩
  have e1 : (upd (upd H dx (exd dx [(fld, L2.V.ref b)])) a (exo a C (some dx))) a = some (exo a C (some dx)) := upd_same
  have e2 : (upd (upd H dx (exd dx [(fld, L2.V.ref b)])) a (exo a C (some dx))) dx = some (exd dx [(fld, L2.V.ref b)]) := by rw [upd_ne ne, upd_same]
  have sl : (sizeLine : Nat) = 16777216 := by decide
  have h0 : (Str.empty : Str).length = 0 := rfl
  refine ⟨.ref a, rfl, tx, rfl, by rw [Str.length_append, h0, sl]; omega, .ref a, rfl, a, C, dx, _, .ref b, rfl, V, hno, e1, e2, by simp [List.lookup], b, l, rfl, tk.seq sq, hi, hl, fun m hm => ⟨m, rfl, by rw [Str.length_append, Str.length_append, h0, sl]; omega, a, C, dx, [.str _], rfl, show 1 ≤ 1000 from by decide, T, e1, q dx n ne⟩⟩
structure ExT (P : Program) (w : World) (K : PySem.W.Frag) (mg : Str → Option Value) (base : Heap) (cl : Cls) (x f : Str) (k : Nat) : Prop where
  ex : ∃ C B newId initId bm fI fd ps, BaseE B newId initId bm ∧ OwnE K C newId bm ∧ mg x = some (.ref C) ∧ cl k = some (.ref C) ∧ PySem.W.findIn K (.ref C) "__init__" = some (some (.ref fI)) ∧ PySem.W.typeIn K (.ref fI) = some (.type "function") ∧
    FnOk P w K mg base (L2.CX P w) 1 fI fd ps (spT K C f) ∧ Binds K fd ps []
def intsOk (us : List W) : Bool := Nat.ble us.length 1000 && us.all fun w => match w with
  | .int i => okI i
  | _ => false
theorem ints_of {G : GC} {m : Nat → Addr} {n : Nat} {H : Hp} : ∀ {us : List W} {vs : List V}, (us.all fun w => match w with | .int i => okI i | _ => false) = true → RWs G m n H us vs → ∃ l : List Int, vs = l.map L2.V.int ∧ l.length = us.length ∧ ∀ y ∈ l, y.natAbs.log2 < 1920
  | [], _, _, .nil => ⟨[], rfl, rfl, fun _ z => absurd z List.not_mem_nil⟩
  | w :: us, _, e, .cons a b => by
    rw [List.all_cons, Bool.and_eq_true] at e
    obtain ⟨e1, e2⟩ := e
    obtain ⟨l, rfl, el, hl⟩ := ints_of e2 b
    cases w <;> try (cases e1; done)
    rename_i i
    obtain rfl := rw_int a
    refine ⟨i :: l, rfl, by rw [List.length_cons, List.length_cons, el], fun y hy => ?_⟩
    rcases List.mem_cons.mp hy with z | z
    · rw [z]; exact Nat.le_of_ble_eq_true e1
    · exact hl y z
def sRsT (k : Nat) (f : Str) (fs : FA) : FS := fun ρ h => bindS (fs ρ h) ρ fun ws h1 => match ws with
  | [.tup us] => bif intsOk us then .ex ⟨k, [(f, .tup us)]⟩ ρ h1 else .no
  | _ => .no
section
variable {X : Cx} {B : Bx} {e : Expr} {es : List Expr} {fs : FA} {p pos pos' : Pos} {x f : Str} {k j : Nat}
theorem ss_raiseT (hK : X.K = B.G.K) (hc : X.calm = true) (tk : Takes X B.W) (C : ExT X.prog X.w X.K X.mg X.base B.cl x f k) (hr : Room j X.A) (hj : 2 ≤ j) (hg : Gl X x) (ha : SA X B (e :: es) fs) (hdb : (x == ("__debug__" : Str)) = false)
    (he : starEach (e :: es) X.env = (false, eval e X.env) :: starEach es X.env) (hpl : (backTo pos (starEach es X.env)).any (·.1) = false) : SSt X B (.Raise (some (.Call (.Name x p) (e :: es) [] pos)) none pos') (sRsT k f fs) := by
  obtain ⟨C, Bn, newId, initId, bm, fI, fd, ps, BE, T, hm, hcl, iC, tI, F, hb⟩ := C.ex
  refine ps_imp (ps_raise hc tk (pmk_own1 (CX := L2.CX X.prog X.w) BE T iC tI F (hr.mono hj) hb passes_no hg hm ha hdb he hpl)) fun D σ H ⟨m, h, ρ, s, o⟩ => ⟨m, h, ρ, s, (OutS.bind s o).mono fun vs H1 ⟨ws, m1, h1, r1, v1, q1, o1⟩ => ?_⟩
  match ws, q1, o1 with
  | [.tup us], q1, o1 =>
    obtain ⟨v, rfl, rv⟩ := rws_one q1
    obtain ⟨b, xs, rfl, sq, rs⟩ := rw_tup rv
    simp only at o1
    cases ci : intsOk us with
    | false => rw [ci] at o1; exact o1.elim
    | true =>
      rw [ci] at o1
      unfold intsOk at ci
      rw [Bool.and_eq_true] at ci
      obtain ⟨l, rfl, ll, hi⟩ := ints_of ci.2 rs
      have hz : l.length ≤ 1000 := by rw [ll]; exact Nat.le_of_ble_eq_true ci.1
      refine ⟨by simp, fun a ha => ⟨a, b, l, rfl, ?_, hi, hz, upd_same, fun dx hdx hne => ⟨rfl, dx, [(f, .ref b)], upd_same, ?_, ?_, ?_⟩⟩⟩
      · have tk : TupK H1 (upd H1 a (exo a C none)) := fun c xs z => by
          have h1 : c ≠ a := fun y => by
            rw [y] at z
            rcases z with z | ⟨o, z⟩ <;> (rw [ha] at z; cases z)
          rcases z with z | ⟨o, z⟩
          · exact .inl (by rw [upd_ne h1]; exact z)
          · exact .inr ⟨o, by rw [upd_ne h1]; exact z⟩
        rw [hK]
        exact tk.seq sq
      · rw [upd_ne hne, upd_same]
      · rwa [upd_ne hne] at hdx
      · have hdx1 : H1 dx = none := by rwa [upd_ne hne] at hdx
        have eH : upd (del (upd (upd (upd H1 a (exo a C none)) dx (exd dx [(f, L2.V.ref b)])) a (exo a C (some dx))) a) dx (.xd [(f, .ref b)]) = upd H1 dx (.xd [(f, .ref b)]) := by
          funext c
          by_cases hb : c = dx
          · subst hb; rw [upd_same, upd_same]
          · rw [upd_ne hb, upd_ne hb]
            by_cases hb2 : c = a
            · subst hb2; rw [del_same, ha]
            · rw [del_ne hb2, upd_ne hb2, upd_ne hb, upd_ne hb2]
        rw [eH]
        obtain ⟨r2, v2⟩ := r1.tupNew (ho := .xd [(f, .ref b)]) hdx1
        exact o1 m1 _ σ _ _ ((s.mv r1 v1).mv r2 v2) v2 ⟨hcl, .inr ⟨dx, _, rfl, upd_same, rfl, .cons (rv.mono v2.old v2.le (v2.tupk r1)) .nil⟩⟩
end
section
open PySem.W
variable {P : Program} {w : World} {K : PySem.W.Frag} {mg : Str → Option Value} {base h : Heap} {Cs : List Addr} {C : Addr} {k : Nat} {x f : Str}
theorem exT_mk {B newId initId : String} {bm : List Value} {fI : Addr} {fd : FuncData} {ps : List Str} (X : K.In h) (N : h.Ns mainGlobals mg) (hC : Cs[k]? = some C) (BE : BaseE B newId initId bm) (a : PySem.W.nsIn K mainGlobals x = some (some (.ref C))) (T : OwnE K C newId bm)
    (i : PySem.W.findIn K (.ref C) "__init__" = some (some (.ref fI))) (ty : PySem.W.typeIn K (.ref fI) = some (.type "function")) (F : FnOk P w K mg base (L2.CX P w) 1 fI fd ps (spT K C f)) (b : BindsE fd ps) : ExT P w K mg base (clOf Cs) x f k :=
  ⟨⟨C, B, newId, initId, bm, fI, fd, ps, BE, T, PySem.W.mg_of X N a, clOf_at hC, i, ty, F, .all b⟩⟩
end
end EV
namespace EV
open PySem PySem.Spec PyProof.Rows L2
section
variable {X : Cx} {B : Bx} {a b : Expr} {fa fb : FE} {pos : Pos}
end
end EV
namespace EV
open PySem PySem.Spec PyProof.Rows L2
section
variable {X : Cx} {B : Bx} {e o : Expr} {es : List Expr} {fo f : FE} {fs : FA} {apos cpos : Pos}
end
end EV
namespace EV
open PySem PySem.Spec PyProof.Rows L2
theorem erO_ok {P : Program} {w : World} {H : Hp} {h : Heap} {a C : Addr} {d : Option Addr} {oe : Obj} (he : h.get? a = some oe) (hc : oe.cls = .ref C) (hd : oe.dict = d) (hf : ∃ vs, oe.data = .fields vs) : ObjOk P w H h a (erO a C d) :=
  ⟨⟨oe, he, hc, hd, hf⟩, ⟨_, he⟩, fun h1 h2 z k => by
    obtain ⟨o, e, r⟩ := z
    exact ⟨o, k _ e, r⟩⟩
theorem erO_at {P : Program} {w : World} {H : Hp} {h : Heap} {a C : Addr} {d : Option Addr} (hok : HOk P w H h) (e : H a = some (erO a C d)) : ∃ oe : Obj, h.get? a = some oe ∧ oe.cls = .ref C ∧ oe.dict = d ∧ ∃ vs, oe.data = .fields vs := by
  have x : ObjOk P w H h a (.ext fun h => ∃ oe : Obj, h.get? a = some oe ∧ oe.cls = .ref C ∧ oe.dict = d ∧ ∃ vs, oe.data = .fields vs) := hok a _ e
  exact x.1
theorem dO_ok {P : Program} {w : World} {H : Hp} {h : Heap} {a : Addr} {o : Obj} (he : h.get? a = some o) : ObjOk P w H h a (dO a) :=
  ⟨⟨o, he⟩, ⟨_, he⟩, fun h1 h2 z k => by
    obtain ⟨o, e⟩ := z
    exact ⟨o, k _ e⟩⟩
theorem dO_at {P : Program} {w : World} {H : Hp} {h : Heap} {a : Addr} (hok : HOk P w H h) (e : H a = some (dO a)) : ∃ o : Obj, h.get? a = some o := by
  have x : ObjOk P w H h a (.ext fun h => ∃ o : Obj, h.get? a = some o) := hok a _ e
  exact x.1
def tVal (t : L2.St → Hp → XK → Prop) : TE := fun σ H Q => t σ H fun cls d H' => ∃ C, cls = .ref C ∧ ((d = none ∧ ∀ a, H' a = none → Q (.ref a) (upd H' a (erO a C none))) ∨
  ∃ dd fs, d = some dd ∧ H' dd = some (.xd fs) ∧ ∀ a, H' a = none → Q (.ref a) (upd (upd H' dd (dO dd)) a (erO a C (some dd))))
theorem pe_ofMk {X : Cx} {e : Expr} {t : L2.St → Hp → XK → Prop} (h : PMk X e t) : PE X e (tVal t) := by
  refine ⟨fun pins s σ H Q I q => ?_⟩
  refine wpAny_mono (h pins s σ H _ I q) (fun u s' hm => ?_) fun _ _ x => x
  obtain ⟨a, oe, vs, sI, H', cls, d, eu, J, k, na, he, z, hd, h1, nH, os, bare, rs, C, ec, q2⟩ := hm
  subst eu ec
  obtain ⟨hp, g, dr, tk, os'⟩ := s'
  have nb : ∀ {b : Addr} {o : Obj}, sI.heap.get? b = some o → b ≠ a := fun {b o} q y => by
    rw [y, na] at q
    cases q
  have fin : ∀ H2 : Hp, H2 a = none → (∀ b, H' b = none → H2 b = none) → (∀ b xs, H' b = some (.tup xs) → H2 b = some (.tup xs)) → (∀ b o v, H' b = some (.frz o v) → H2 b = some (.frz o v)) → (∀ b ps, H' b = some (.tbl ps) → H2 b = some (.tbl ps)) →
      (∀ c b, H' c = some (.own b) → H2 c = some (.own b)) → (∀ b o, H2 b = some o → H' b = some o ∨ ObjOk X.prog X.w (upd H2 a (erO a C d)) hp b o) → Inv X pins σ (upd H2 a (erO a C d)) ⟨hp, g, dr, tk, os'⟩ := fun H2 e0 e1 e2 e3 e4 e5 e6 => by
    have U : Un (frs X.stack) [] H' (upd H2 a (erO a C d)) sI.heap hp := {
      keep := fun b o q n _ _ => k b o q
      slot := fun b o q n _ _ => ⟨o.slots, k b o q⟩
      free := fun b o q n _ => by rw [upd_ne (nb q)]; exact e1 b n
      there := fun b o q _ => ⟨o, k b o q⟩
      tups := fun b xs q => by rw [upd_ne (ne_of_none q nH)]; exact e2 b xs q
      frzs := fun b o v q => by rw [upd_ne (ne_of_none q nH)]; exact e3 b o v q
      tbls := fun b ps q => ⟨#[], by rw [upd_ne (ne_of_none q nH), e4 b ps q]; simp⟩ }
    have hok : HOk X.prog X.w (upd H2 a (erO a C d)) hp := fun b o y => by
      by_cases hb : b = a
      · subst hb
        rw [upd_same] at y
        cases y
        exact erO_ok he z.1 z.2 ⟨vs, hd⟩
      · rw [upd_ne hb] at y
        rcases e6 b o y with y | y
        · exact (J.hok b o y).stay (fun c v _ x => k c v x) (fun c hc => by rw [upd_ne (ne_of_none hc nH)]; exact e5 c b hc) (fun c xs hc => by rw [upd_ne (ne_of_none hc nH)]; exact e2 c xs hc)
        · exact y
    exact J.call' (ch := []) os U hok bare (fun b z => absurd z (by simp))
  rcases q2 with ⟨rfl, q2⟩ | ⟨dd, fs, rfl, hx, q2⟩
  · exact ⟨.ref a, _, fin H' nH (fun _ z => z) (fun _ _ z => z) (fun _ _ _ z => z) (fun _ _ z => z) (fun _ _ z => z) fun b o z => .inl z, rfl, q2 a nH⟩
  · have hne : a ≠ dd := fun z => by rw [z, hx] at nH; cases nH
    have nd : ∀ {b : Addr} {u : HO}, H' b = some u → u ≠ .xd fs → b ≠ dd := fun {b u} q z y => by
      rw [y, hx] at q
      exact z (Option.some.inj q).symm
    have hz : ObjOk X.prog X.w H' sI.heap dd (.xd fs) := J.hok dd _ hx
    obtain ⟨od, ho⟩ := objOk_get hz
    refine ⟨.ref a, _, fin (upd H' dd (dO dd)) (by rw [upd_ne hne]; exact nH) (fun b n => by rw [upd_ne (fun y => by rw [y, hx] at n; cases n)]; exact n) (fun b xs q => by rw [upd_ne (nd q (fun z => by cases z))]; exact q) (fun b o v q => by rw [upd_ne (nd q (fun z => by cases z))]; exact q)
      (fun b ps q => by rw [upd_ne (nd q (fun z => by cases z))]; exact q) (fun c b q => by rw [upd_ne (nd q (fun z => by cases z))]; exact q) (fun b o y => ?_), rfl, q2 a nH⟩
    by_cases hb : b = dd
    · subst hb
      rw [upd_same] at y
      cases y
      exact .inr (dO_ok (k _ _ ho))
    · rw [upd_ne hb] at y
      exact .inl y
def EcC (B : Bx) (k : Nat) : Prop := ∀ D, B.cl k = some (.ref D) → B.G.cc k = some D
def eMk0 (k : Nat) : FE := fun _ h => h.al (.er k none)
def mkEr (k : Nat) (h : Hpe) : Res W := (h.al .xo).bind fun w h2 => match w with
  | .ref j => h2.al (.er k (some j))
  | _ => .no
def eMk1 (k : Nat) (fs : FA) : FE := fun ρ h => (fs ρ h).bind fun ws h1 => match ws with
  | [.int i] => bif okI i then mkEr k h1 else .no
  | _ => .no
def eMkT (k : Nat) (fs : FA) : FE := fun ρ h => (fs ρ h).bind fun ws h1 => match ws with
  | [.tup us] => bif intsOk us then mkEr k h1 else .no
  | _ => .no
theorem mkEr_ok {G : GC} {cl : Cls} {Wx : Value → Option Addr → Hp → Prop} {m : Nat → Addr} {h : Hpe} {H : Hp} {k : Nat} {C dx : Addr} {kus : List (Str × L2.V)} {Q : VK} (rh : RH G m h H) (hC : G.cc k = some C) (hd : H dx = none) (o : Out G cl (RW G) Wx m h H (mkEr k h) Q) :
    ∀ a, (upd H dx (.xd kus)) a = none → Q (.ref a) (upd (upd (upd H dx (.xd kus)) dx (dO dx)) a (erO a C (some dx))) := by
  have z := al_okA (ho := dO) rh (Out.bind (R := RW G) rh o) (fun _ => .xo) dx hd
  obtain ⟨w, m2, h2, r2, v2, q2, o2⟩ := z
  intro a ha
  have e0 : upd (upd H dx (.xd kus)) dx (dO dx) = upd H dx (dO dx) := by
    funext b
    by_cases hb : b = dx
    · rw [hb, upd_same, upd_same]
    · rw [upd_ne hb, upd_ne hb, upd_ne hb]
  have ha2 : (upd H dx (dO dx)) a = none := by
    by_cases hb : a = dx
    · rw [hb, upd_same] at ha; cases ha
    · rw [upd_ne hb] at ha ⊢; exact ha
  rw [e0]
  cases w <;> try exact o2.elim
  rename_i j
  obtain ⟨e, hj⟩ := rw_ref q2
  have e : dx = m2 j := L2.V.ref.inj e
  subst e
  exact al_okA (ho := fun a => erO a C (some (m2 j))) r2 o2 (fun _ => .er1 hC hj) a ha2
section
variable {X : Cx} {B : Bx} {e : Expr} {es : List Expr} {fs : FA} {p pos : Pos} {x f : Str} {k j : Nat}
theorem se_mk0 (C : ExE X.K X.mg B.cl x k) (E : EcC B k) (hg : Gl X x) (hdb : (x == ("__debug__" : Str)) = false) : SE X B (.Call (.Name x p) [] [] pos) (eMk0 k) := by
  obtain ⟨C, bmB, Bn, newId, initId, F, q, gC, hcl, kC, sC, tC⟩ := C.ex
  exact pe_imp (pe_ofMk (DL.pmk_own0 F q gC kC (raises_own sC tC) hg hdb)) fun σ H Q ⟨m, h, ρ, s, o⟩ => ⟨C, rfl, .inl ⟨rfl, fun a ha => al_okA (ho := fun a => erO a C none) s.rh o (fun _ => .er0 (E C hcl)) a ha⟩⟩
theorem se_mk1 (E : EcC B k) (C : ExI X.prog X.w X.K X.mg X.base B.cl x f k) (hr : Room j X.A) (hj : 2 ≤ j) (hg : Gl X x) (ha : SA X B (e :: es) fs) (hdb : (x == ("__debug__" : Str)) = false)
    (he : starEach (e :: es) X.env = (false, eval e X.env) :: starEach es X.env) (hpl : (backTo pos (starEach es X.env)).any (·.1) = false) : SE X B (.Call (.Name x p) (e :: es) [] pos) (eMk1 k fs) := by
  obtain ⟨C, Bn, newId, initId, bm, fI, fd, ps, BE, T, hm, hcl, iC, tI, F, hb⟩ := C.ex
  refine pe_imp (pe_ofMk (pmk_own1 (CX := L2.CX X.prog X.w) BE T iC tI F (hr.mono hj) hb passes_no hg hm ha hdb he hpl)) fun σ H Q ⟨m, h, ρ, s, o⟩ => ⟨m, h, ρ, s, (Out.bind s.rh o).mono fun vs H1 ⟨ws, m1, h1, r1, v1, q1, o1⟩ => ?_⟩
  match ws, q1, o1 with
  | [.int i], q1, o1 =>
    obtain ⟨v, rfl, rv⟩ := rws_one q1
    obtain rfl := rw_int rv
    simp only at o1
    cases ci : okI i with
    | false => rw [ci] at o1; exact o1.elim
    | true =>
      rw [ci] at o1
      have hi : i.natAbs.log2 < 1920 := Nat.le_of_ble_eq_true ci
      refine ⟨by simp, fun a ha => ⟨a, i, rfl, hi, upd_same, fun dx hdx hne => ⟨rfl, dx, [(f, .int i)], upd_same, ?_, ?_, ?_⟩⟩⟩
      · rw [upd_ne hne, upd_same]
      · rwa [upd_ne hne] at hdx
      · have hdx1 : H1 dx = none := by rwa [upd_ne hne] at hdx
        have eH : upd (del (upd (upd (upd H1 a (exo a C none)) dx (exd dx [(f, L2.V.int i)])) a (exo a C (some dx))) a) dx (.xd [(f, .int i)]) = upd H1 dx (.xd [(f, .int i)]) := by
          funext b
          by_cases hb : b = dx
          · subst hb; rw [upd_same, upd_same]
          · rw [upd_ne hb, upd_ne hb]
            by_cases hb2 : b = a
            · subst hb2; rw [del_same, ha]
            · rw [del_ne hb2, upd_ne hb2, upd_ne hb, upd_ne hb2]
        rw [eH]
        exact ⟨C, rfl, .inr ⟨dx, _, rfl, upd_same, mkEr_ok r1 (E C hcl) hdx1 o1⟩⟩
theorem se_mkT (hK : X.K = B.G.K) (E : EcC B k) (C : ExT X.prog X.w X.K X.mg X.base B.cl x f k) (hr : Room j X.A) (hj : 2 ≤ j) (hg : Gl X x) (ha : SA X B (e :: es) fs) (hdb : (x == ("__debug__" : Str)) = false)
    (he : starEach (e :: es) X.env = (false, eval e X.env) :: starEach es X.env) (hpl : (backTo pos (starEach es X.env)).any (·.1) = false) : SE X B (.Call (.Name x p) (e :: es) [] pos) (eMkT k fs) := by
  obtain ⟨C, Bn, newId, initId, bm, fI, fd, ps, BE, T, hm, hcl, iC, tI, F, hb⟩ := C.ex
  refine pe_imp (pe_ofMk (pmk_own1 (CX := L2.CX X.prog X.w) BE T iC tI F (hr.mono hj) hb passes_no hg hm ha hdb he hpl)) fun σ H Q ⟨m, h, ρ, s, o⟩ => ⟨m, h, ρ, s, (Out.bind s.rh o).mono fun vs H1 ⟨ws, m1, h1, r1, v1, q1, o1⟩ => ?_⟩
  match ws, q1, o1 with
  | [.tup us], q1, o1 =>
    obtain ⟨v, rfl, rv⟩ := rws_one q1
    obtain ⟨b, xs, rfl, sq, rs⟩ := rw_tup rv
    simp only at o1
    cases ci : intsOk us with
    | false => rw [ci] at o1; exact o1.elim
    | true =>
      rw [ci] at o1
      unfold intsOk at ci
      rw [Bool.and_eq_true] at ci
      obtain ⟨l, rfl, ll, hi⟩ := ints_of ci.2 rs
      have hz : l.length ≤ 1000 := by rw [ll]; exact Nat.le_of_ble_eq_true ci.1
      refine ⟨by simp, fun a ha => ⟨a, b, l, rfl, ?_, hi, hz, upd_same, fun dx hdx hne => ⟨rfl, dx, [(f, .ref b)], upd_same, ?_, ?_, ?_⟩⟩⟩
      · have tk : TupK H1 (upd H1 a (exo a C none)) := fun c xs z => by
          have h1 : c ≠ a := fun y => by
            rw [y] at z
            rcases z with z | ⟨o, z⟩ <;> (rw [ha] at z; cases z)
          rcases z with z | ⟨o, z⟩
          · exact .inl (by rw [upd_ne h1]; exact z)
          · exact .inr ⟨o, by rw [upd_ne h1]; exact z⟩
        rw [hK]
        exact tk.seq sq
      · rw [upd_ne hne, upd_same]
      · rwa [upd_ne hne] at hdx
      · have hdx1 : H1 dx = none := by rwa [upd_ne hne] at hdx
        have eH : upd (del (upd (upd (upd H1 a (exo a C none)) dx (exd dx [(f, L2.V.ref b)])) a (exo a C (some dx))) a) dx (.xd [(f, .ref b)]) = upd H1 dx (.xd [(f, .ref b)]) := by
          funext c
          by_cases hb : c = dx
          · subst hb; rw [upd_same, upd_same]
          · rw [upd_ne hb, upd_ne hb]
            by_cases hb2 : c = a
            · subst hb2; rw [del_same, ha]
            · rw [del_ne hb2, upd_ne hb2, upd_ne hb, upd_ne hb2]
        rw [eH]
        exact ⟨C, rfl, .inr ⟨dx, _, rfl, upd_same, mkEr_ok r1 (E C hcl) hdx1 o1⟩⟩
end
def rIsV (K : PySem.W.Frag) : List L2.V → Hp → VK → Prop := fun xs H Q => ∃ (a D : Addr) (d : Option Addr) (c : L2.V) (cv : Value) (b : Bool), xs = [.ref a, c] ∧ (∀ u, RelV c u → u = cv) ∧ H a = some (erO a D d) ∧ ExcC K D ∧ PySem.W.kitOne K (.ref D) cv = some b ∧
  (d = none ∨ ∃ dd, d = some dd ∧ H dd = some (dO dd)) ∧ Q (.bl b) H
theorem call_isV {X : Cx} : CallR X (.builtin "isinstance") (rIsV X.K) := by
  intro pins s σ H xs us Q I r h
  obtain ⟨a, D, d, c, cv, b, rfl, hcv, ha, C, e, hd, q⟩ := h
  cases r with
  | cons rx rr =>
    cases rr with
    | cons rt rr =>
      cases rr
      cases rx
      have ec := hcv _ rt
      subst ec
      obtain ⟨oe, hget, h1, h2, vs, hv⟩ := erO_at I.hok ha
      have J : ∃ od, PySem.W.InstAt s.heap a oe D od := by
        obtain ⟨oc, od, oda, osl⟩ := oe
        dsimp only at h1 h2 hv
        subst h1 h2 hv
        rcases hd with rfl | ⟨dd, rfl, hx⟩
        · exact ⟨none, hget, rfl, rfl, trivial⟩
        · obtain ⟨o, ho⟩ := dO_at I.hok hx
          exact ⟨some o, hget, rfl, rfl, ho⟩
      obtain ⟨od, J⟩ := J
      obtain ⟨cd, hc, _⟩ := PySem.W.any_some C.hd
      exact PySem.W.kia_one (PySem.W.kitx_exc (by rw [hc]; rfl) C.hg C.hk C.hs C.ha C.hn C.ht C.hm) I.kIn J e (fun z => nomatch z) fun tk => ⟨.bl b, H, I.kept (t' := tk) fun _ _ z => z, rfl, q⟩
def xoAt (d : Option Nat) (h : Hpe) : Bool := match d with
  | none => true
  | some j => match h.get j with
    | some .xo => true
    | _ => false
def eIsE (tb : List (Nat × Bool)) (f : FE) : FE := fun ρ h => (f ρ h).bind fun w h1 => match w with
  | .ref n => match h1.get n with
    | some (.er c d) => bif xoAt d h1 then (match tb.lookup c with
      | some b => .ok (.bl b) h1
      | none => .no) else .no
    | _ => .no
  | _ => .no
def IsT (K : PySem.W.Frag) (cc : Nat → Option Addr) (cv : Value) (tb : List (Nat × Bool)) : Prop := ∀ c b, tb.lookup c = some b → ∀ D, cc c = some D → ExcC K D ∧ PySem.W.kitOne K (.ref D) cv = some b
theorem er_at {G : GC} {m : Nat → Addr} {h : Hpe} {H : Hp} {n c : Nat} {d : Option Nat} (r : RH G m h H) (hn : n < h.nx) (e : h.get n = some (.er c d)) (x : xoAt d h = true) : ∃ D d', H (m n) = some (erO (m n) D d') ∧ G.cc c = some D ∧ (d' = none ∨ ∃ dd, d' = some dd ∧ H dd = some (dO dd)) := by
  obtain ⟨o, ho, q1, q2, q3⟩ := r.obj n hn
  rw [e] at q1; cases q1
  cases q3 with
  | er0 a => exact ⟨_, _, q2, a, .inl rfl⟩
  | er1 a b =>
    rename_i C j
    refine ⟨_, _, q2, a, .inr ?_⟩
    simp only [xoAt] at x
    split at x
    · rename_i ej
      obtain ⟨o', ho', p1, p2, p3⟩ := r.obj j b
      rw [ej] at p1; cases p1
      cases p3 with
      | xo => exact ⟨_, rfl, p2⟩
    · cases x
section
variable {X : Cx} {B : Bx} {a t : Expr} {f : FE} {p pos : Pos} {tb : List (Nat × Bool)} {cv : Value} {vt : L2.V}
theorem se_isE (hK : X.K = B.G.K) (hm : X.mg "isinstance" = none) (hg : Gl X "isinstance") (I : IsT X.K B.G.cc cv tb) (ha : SE X B a f) (ht : PE X t (L2.tC vt)) (hv : ∀ u, RelV vt u → u = cv)
    (h3 : starEach [a, t] X.env = (false, eval a X.env) :: starEach [t] X.env) (h5 : starEach [t] X.env = (false, eval t X.env) :: starEach [] X.env) (h4 : (backTo pos (starEach [t] X.env)).any (·.1) = false) :
    SE X B (.Call (.Name "isinstance" p) [a, t] [] pos) (eIsE tb f) :=
  pe_imp (pe_callB call_isV hg hm (by decide +kernel) (pa_cons ha (pa_cons ht pa_nil h5) h3) (by decide) (by decide) h3 h4) fun σ H Q ⟨m, h, ρ, s, o⟩ => ⟨m, h, ρ, s, (Out.bind s.rh o).mono fun v H1 ⟨w, m1, h1, r1, v1, q1, o1⟩ => by
    cases w <;> try exact o1.elim
    rename_i n
    obtain ⟨rfl, hn⟩ := rw_ref q1
    dsimp only at o1
    split at o1
    · rename_i c d eg
      cases cx : xoAt d h1 with
      | false => rw [cx] at o1; exact o1.elim
      | true =>
        rw [cx] at o1
        simp only [cond_true] at o1
        split at o1
        · rename_i b eb
          obtain ⟨D, d', e1, e2, e3⟩ := er_at r1 hn eg cx
          obtain ⟨i1, i2⟩ := I c b eb D e2
          exact ⟨m1 n, D, d', vt, cv, b, rfl, hv, e1, i1, i2, e3, o1 m1 H1 _ r1 Mv.refl (.bl _)⟩
        · exact o1.elim
    · exact o1.elim⟩
end
end EV
namespace EV
open PySem PySem.Spec PyProof.Rows L2 PySem.HandSPX PySem.W PySem.Calls
section
variable {C N : Addr} {nm q : Str} {bm bs bmB : List Value} {hdct ab : Bool} {sn : List Str} {sub : List Value} {col : Option Bool} {dd : Option Addr} {k0 k1 k2 k3 k5 : Option Value} {B initId newId : String} {kw : List (Str × Value)}
variable {w : World} {prog : Program} {M : Model} {A : Around} {R : Result → Shared → Prop} {E : Value → Shared → Prop} {g : Array GenState} {h : Heap} {d : Drawn} {t : Nat} {os : OsState}
theorem ck_newK {Q : Unit → Shared → Prop} (F : ExcBaseFacts B newId initId bmB) (hT : ∀ X : String, bm.contains (.type X) = bmB.contains (.type X)) (hC : h.get? C = some (excClassObj nm q C N bs bm hdct sn sub ab col dd k0 k1 k2 k3 k5 newId))
    (hq : Q () ⟨h, g, d, t, os⟩) : wpAny M A (checkBuiltinCall newId ⟨[.ref C], kw⟩) Q E ⟨h, g, d, t, os⟩ := by
  have c1 : (Value.ref C :: bm).contains (.type B) = true := by rw [List.contains_cons, hT, F.hasB]; exact Bool.or_true _
  have c2 := F.noStar
  simp only [checkBuiltinCall, F.newSplit, F.newKind, F.newRow]
  repeat (first | (refine wpAny_isSubtype_exc hC ?_; rw [c1]) | refine wpAny_loadPart_at hC ?_ | refine wpAny_staticBase_exc hC ?_ | refine wpAny_madeBy_exc hC ?_ | simp only [Bool.false_eq_true, bne_self_eq_false, if_false] | wp_step)
  exact hq
theorem mk_newK (F : ExcBaseFacts B newId initId bmB) (hT : ∀ X : String, bm.contains (.type X) = bmB.contains (.type X)) (hC : h.get? C = some (excClassObj nm q C N bs bm hdct sn sub ab col dd k0 k1 k2 k3 k5 newId))
    (hq : R (.ok (.ret (.ref (h.objs.size + 1)))) ⟨(h.push (PySem.W.kdv_tup [])).push (excO C h.objs.size), g, d, t, os⟩) : codeAny (model prog w) A (.builtin newId ⟨[.ref C], kw⟩) R ⟨h, g, d, t, os⟩ := by
  have c0 := F.ends
  have c1 : (Value.ref C :: bm).contains (.type B) = true := by rw [List.contains_cons, hT, F.hasB]; exact Bool.or_true _
  have c2 : (Value.ref C :: bm).contains (.type "AttributeError") = false := by rw [List.contains_cons, hT, F.noAttr] <;> rfl
  have c3 : (Value.ref C :: bm).contains (.type "NameError") = false := by rw [List.contains_cons, hT, F.noName] <;> rfl
  refine codeAny_builtinAt F.entry ?_
  unfold Builtin.«BaseException.__new__»
  refine PySem.wpAt_bind ?_
  show PySem.wpAt _ _ _ (stack >>= _) _ _ _
  refine PySem.wpAt_bind (PySem.wpAt_stack fun p below => PySem.wpAt_of_wpAny ?_)
  wp_walk
  refine PySem.wpAt_of_wpAny ?_
  rw [F.owner]
  repeat (first | with_reducible refine wpAny_loadPart_at hC ?_ | with_reducible refine wpAny_madeHere_exc F.canon hC ?_ | (with_reducible refine wpAny_isSubtype_exc hC ?_; first | rw [c1] | rw [c2] | rw [c3]) | wp_step)
  show R _ _
  rw [Heap.size_push]
  exact hq
theorem ty_callK (F : ExcBaseFacts B newId initId bmB) (hT : ∀ X : String, bm.contains (.type X) = bmB.contains (.type X)) {fI : Addr} {Q : Fin → Shared → Prop} (hC : h.get? C = some (excClassObj nm q C N bs bm hdct sn sub ab col dd k0 k1 k2 k3 k5 newId))
    (hi : PySem.W.Looks (model prog w) h (typeLookup (.ref C) "__init__") (some (.ref fI))) (hb : ∀ self, PySem.W.Looks (model prog w) h (bindSpecial (.ref fI) self) (.ref fI, [self]))
    (hq : codeAny (model prog w) A (.call (.ref fI) ⟨[.ref (h.objs.size + 1)], kw⟩) (fun r s' => match r with | .ok (.ret v) => v = .none ∧ Q (.done (.ret (.ref (h.objs.size + 1)))) s' | .ok _ => False | .error e => E e s')
      ⟨(h.push (PySem.W.kdv_tup [])).push (excO C h.objs.size), g, d, t, os⟩) : wpAny (model prog w) A (Builtin.«type.__call__» ⟨[.ref C], kw⟩) Q E ⟨h, g, d, t, os⟩ := by
  repeat (first | with_reducible refine wpAny_madeBy_exc hC ?_ | with_reducible refine wpAny_loadPart_at hC ?_ | wp_step)
  refine codeAny_call_builtin_code (Code.quiet_builtin _ F.quiet) (ck_newK F hT hC ?_)
  refine mk_newK F hT hC ?_
  show wpAny _ _ _ _ _ _
  have kk : ∀ b o, h.get? b = some o → ((h.push (PySem.W.kdv_tup [])).push (excO C h.objs.size)).get? b = some o := fun b o e => Heap.get?_push_of_some _ (Heap.get?_push_of_some _ e)
  have g1 := kk _ _ hC
  have g2 : ((h.push (PySem.W.kdv_tup [])).push (excO C h.objs.size)).get? (h.objs.size + 1) = some (excO C h.objs.size) := by heap_get
  have g3 : (Value.ref C :: bm).contains (.ref C) = true := by simp
  have i1 := hi.keeps kk
  have b1 := (hb (.ref (h.objs.size + 1))).keeps kk
  unfold isInstance
  repeat (first | (with_reducible refine wpAny_isSubtype_exc g1 ?_; rw [g3]) | with_reducible refine wpAny_loadPart_at g2 ?_ | wp_step)
  show wpAny _ _ (typeLookup (.ref C) _) _ _ _
  refine i1.at ?_
  refine wpAny_holding (wpAny_bind (b1.at ?_))
  refine wpAny_bind (wpAny_call (codeAny_mono hq fun r s' z => ?_))
  rcases r with e | (v | _ | _ | _) <;> first | exact z | exact z.elim | skip
  obtain ⟨rfl, z⟩ := z
  first
    | exact wpAny_pure (wpAny_pure z)
    | (wp_walk; exact z)
theorem ck_tyK {Q : Unit → Shared → Prop} (hC : h.get? C = some (excClassObj nm q C N bs bm hdct sn sub ab col dd k0 k1 k2 k3 k5 newId)) (hq : Q () ⟨h, g, d, t, os⟩) : wpAny M A (checkBuiltinCall "type.__call__" ⟨[.ref C], kw⟩) Q E ⟨h, g, d, t, os⟩ := by
  have f3 := PySem.tc_sub
  have hT : (⟨h, g, d, t, os⟩ : Shared).TypeIs (.ref C) "type" := ⟨_, hC, rfl⟩
  simp only [checkBuiltinCall, PySem.tc_split, PySem.tc_kind]
  repeat (any_goals (first | with_reducible refine wpAny_loadPart_at hC ?_ | assumption | with_reducible refine wpAny_onRaise ?_ | with_reducible refine wpAny_map ?_ | wp_step))
theorem call_ownK (F : ExcBaseFacts B newId initId bmB) (hT : ∀ X : String, bm.contains (.type X) = bmB.contains (.type X)) {fI : Addr} (hC : h.get? C = some (excClassObj nm q C N bs bm hdct sn sub ab col dd k0 k1 k2 k3 k5 newId))
    (hi : PySem.W.Looks (model prog w) h (typeLookup (.ref C) "__init__") (some (.ref fI))) (hb : ∀ self, PySem.W.Looks (model prog w) h (bindSpecial (.ref fI) self) (.ref fI, [self]))
    (hq : codeAny (model prog w) (A.under (.builtin "type.__call__" ⟨[.ref C], kw⟩)) (.call (.ref fI) ⟨[.ref (h.objs.size + 1)], kw⟩) (PySem.W.InitBack (h.objs.size + 1) R) ⟨(h.push (PySem.W.kdv_tup [])).push (excO C h.objs.size), g, d, t, os⟩) :
    codeAny (model prog w) A (.call (.ref C) ⟨[], kw⟩) R ⟨h, g, d, t, os⟩ := by
  have f1 := PySem.tc_lookup
  have f2 := PySem.tc_bind (.ref C)
  have hTy : (⟨h, g, d, t, os⟩ : Shared).TypeIs (.ref C) "type" := ⟨_, hC, rfl⟩
  refine codeAny_of_tree ?_
  show wpAny _ _ (callAny (.ref C) _) _ _ _
  repeat (any_goals (first | assumption | wp_step | with_reducible refine wpAny_loadPart_at hC ?_))
  refine ⟨rfl, ?_⟩
  refine codeAny_call_builtin_at (Code.quiet_builtin _ (by decide +kernel)) PySem.entry_typeCall (ck_tyK hC (ty_callK F hT hC hi hb ?_))
  refine codeAny_mono hq fun r s' z => ?_
  rcases r with e | (v | _ | _ | _) <;> first | exact z | exact z.elim
end
end EV
namespace EV
open PySem PySem.Spec PyProof.Rows L2
section
variable {X : Cx} {e : Expr} {ta : TA} {x pm : Str} {p pos : Pos} {B newId initId : String} {bm : List Value} {kws : List Keyword}
theorem pmk_ownK {CX : CXT} {C fI : Addr} {k : Nat} {fd : FuncData} {sp : Sp} (BE : BaseE B newId initId bm) (T : OwnE X.K C newId bm) (iC : PySem.W.findIn X.K (.ref C) "__init__" = some (some (.ref fI))) (tI : PySem.W.typeIn X.K (.ref fI) = some (.type "function"))
    (F1 : FnOk X.prog X.w X.K X.mg X.base CX k fI fd ["self", pm] sp) (hr : Room (k + 1) X.A) (hb : ∀ (s : Shared) (a u : Value), BindsTo s fd ⟨[a], [(pm, u)]⟩ [("self", a), (pm, u)]) (hx : Passes CX X (fun _ _ _ => False)) (hg : Gl X x) (hm : X.mg x = some (.ref C)) (ha : PK X kws ta)
    (hdb : (x == ("__debug__" : Str)) = false) (hall : (backToKw pos (keywordEach kws X.env)).all (·.1.isSome) = true) (hks : (backToKw pos (keywordEach kws X.env)).filterMap (·.1) = [pm]) (hpl : ((backTo pos (starEach [] X.env)).any (·.1) || (backToKw pos (keywordEach kws X.env)).any (·.1.isNone)) = false) :
    PMk X (.Call (.Name x p) [] kws pos) (tMkO C sp [] ta) := by
  intro pins s σ H Q I h
  obtain ⟨nm, q, N, bs, sn, sub, ab, col, dd, k0, k1, k2, k3, k5, hC⟩ := T.cls
  refine wpAny_Call_Name_kw (ld_glob I hg hm ?_ hdb)
  refine PySem.W.callWith_KW0 (h₀ := X.base) I.ok.mod.kin T.kC hall (thn (ha.run pos pins s σ H _ I h) fun us s1 ⟨vs, H1, I1, r1, hz, q1⟩ => ⟨I1.kIn, ?_⟩) hpl
  rw [hks]
  show wpAny _ _ (call (.ref C) [] ([pm].zip us)) _ _ _
  obtain ⟨hp, g, dr, tk, os⟩ := s1
  have hsz : hp.objs.size ≤ hp.objs.size + 1 := Nat.le_succ _
  have hn : H1 (hp.objs.size + 1) = none := I1.hok.fresh hsz
  have hq := q1 (hp.objs.size + 1) hn
  have hl := F1.len _ _ _ _ hq
  obtain ⟨z, rfl⟩ : ∃ z, vs = [z] := by
    match vs, hl with
    | [z], _ => exact ⟨z, rfl⟩
    | [], hl => simp at hl
    | _ :: _ :: _, hl => simp at hl
  obtain ⟨u, rfl, ru⟩ := vals1 r1
  have kk : ∀ b o, hp.get? b = some o → ((hp.push (PySem.W.kdv_tup [])).push (PySem.HandSPX.excO C hp.objs.size)).get? b = some o := fun b o e => Heap.get?_push_of_some _ (Heap.get?_push_of_some _ e)
  have hget : ((hp.push (PySem.W.kdv_tup [])).push (PySem.HandSPX.excO C hp.objs.size)).get? (hp.objs.size + 1) = some (PySem.HandSPX.excO C hp.objs.size) := by heap_get
  have I2 : Inv X pins σ (upd H1 (hp.objs.size + 1) (exo (hp.objs.size + 1) C none)) ⟨(hp.push (PySem.W.kdv_tup [])).push (PySem.HandSPX.excO C hp.objs.size), g, dr, tk, os⟩ :=
    I1.laid (t' := tk) (a := hp.objs.size + 1) (o := exo (hp.objs.size + 1) C none) (h' := (hp.push (PySem.W.kdv_tup [])).push (PySem.HandSPX.excO C hp.objs.size)) kk hsz (exo_ok hget)
  have r2 : Vals [L2.V.ref (hp.objs.size + 1), z] [Value.ref (hp.objs.size + 1), u] := .cons rfl (.cons ru .nil)
  refine wpAny_call (call_ownK BE.fb (fun Y => rfl) (I1.kIn _ _ hC) (PySem.W.looks_findIn I1.kIn iC) (fun self => PySem.W.bind_fn I1.kIn self tI)
    (codeAny_mono (F1.run _ X.stack _ _ ⟨[Value.ref (hp.objs.size + 1)], [(pm, u)]⟩ [Value.ref (hp.objs.size + 1), u] _ _ (fun _ _ _ => False) (hr.make C [] [(pm, u)]) (I2.env0.make C [] [(pm, u)]) (hb _ _ _) r2 hq) (fun r s' hq' => ?_)))
  cases r with
  | error er => exact hx pins σ _ _ er s' I2 hq'
  | ok fl =>
    cases fl with
    | ret u =>
      obtain ⟨v, H2, os2, bare2, un2, hok2, rv, ev, d, fs, ea, ed, hd1, q2⟩ := hq'
      subst ev
      obtain ⟨h2, g2, d2, t2, os'⟩ := s'
      exact ⟨rv, mk_end (raises_own T.exC T.tyC) I1 hsz kk un2 hok2 os2 bare2 ea ed hd1 q2⟩
    | next => exact False.elim hq'
    | brk => exact False.elim hq'
    | cont => exact False.elim hq'
end
end EV
namespace EV
open PySem PySem.Spec PyProof.Rows L2
def BindK (fd : FuncData) (pm : Str) : Prop := ∀ (s : Shared) (a u : Value), BindsTo s fd ⟨[a], [(pm, u)]⟩ [("self", a), (pm, u)]
structure ExIK (P : Program) (w : World) (K : PySem.W.Frag) (mg : Str → Option Value) (base : Heap) (cl : Cls) (x f pm : Str) (k : Nat) : Prop where
  ex : ∃ C B newId initId bm fI fd, BaseE B newId initId bm ∧ OwnE K C newId bm ∧ mg x = some (.ref C) ∧ cl k = some (.ref C) ∧ PySem.W.findIn K (.ref C) "__init__" = some (some (.ref fI)) ∧ PySem.W.typeIn K (.ref fI) = some (.type "function") ∧
    FnOk P w K mg base (L2.CX P w) 1 fI fd ["self", pm] (spI C f) ∧ BindK fd pm
structure ExTK (P : Program) (w : World) (K : PySem.W.Frag) (mg : Str → Option Value) (base : Heap) (cl : Cls) (x f pm : Str) (k : Nat) : Prop where
  ex : ∃ C B newId initId bm fI fd, BaseE B newId initId bm ∧ OwnE K C newId bm ∧ mg x = some (.ref C) ∧ cl k = some (.ref C) ∧ PySem.W.findIn K (.ref C) "__init__" = some (some (.ref fI)) ∧ PySem.W.typeIn K (.ref fI) = some (.type "function") ∧
    FnOk P w K mg base (L2.CX P w) 1 fI fd ["self", pm] (spT K C f) ∧ BindK fd pm
section
variable {X : Cx} {B : Bx} {fs : FA} {p pos pos' : Pos} {x f pm : Str} {k j : Nat} {kws : List Keyword}
theorem ss_raise1K (hc : X.calm = true) (tk : Takes X B.W) (C : ExIK X.prog X.w X.K X.mg X.base B.cl x f pm k) (hr : Room j X.A) (hj : 2 ≤ j) (hg : Gl X x) (ha : SK X B kws fs) (hdb : (x == ("__debug__" : Str)) = false)
    (hall : (backToKw pos (keywordEach kws X.env)).all (·.1.isSome) = true) (hks : (backToKw pos (keywordEach kws X.env)).filterMap (·.1) = [pm]) (hpl : ((backTo pos (starEach [] X.env)).any (·.1) || (backToKw pos (keywordEach kws X.env)).any (·.1.isNone)) = false) :
    SSt X B (.Raise (some (.Call (.Name x p) [] kws pos)) none pos') (sRs1 k f fs) := by
  obtain ⟨C, Bn, newId, initId, bm, fI, fd, BE, T, hm, hcl, iC, tI, F, hb⟩ := C.ex
  refine ps_imp (ps_raise hc tk (pmk_ownK (CX := L2.CX X.prog X.w) BE T iC tI F (hr.mono hj) hb passes_no hg hm ha hdb hall hks hpl)) fun D σ H ⟨m, h, ρ, s, o⟩ => ⟨m, h, ρ, s, (OutS.bind s o).mono fun vs H1 ⟨ws, m1, h1, r1, v1, q1, o1⟩ => ?_⟩
  match ws, q1, o1 with
  | [.int i], q1, o1 =>
    obtain ⟨v, rfl, rv⟩ := rws_one q1
    obtain rfl := rw_int rv
    simp only at o1
    cases ci : okI i with
    | false => rw [ci] at o1; exact o1.elim
    | true =>
      rw [ci] at o1
      have hi : i.natAbs.log2 < 1920 := Nat.le_of_ble_eq_true ci
      refine ⟨by simp, fun a ha => ⟨a, i, rfl, hi, upd_same, fun dx hdx hne => ⟨rfl, dx, [(f, .int i)], upd_same, ?_, ?_, ?_⟩⟩⟩
      · rw [upd_ne hne, upd_same]
      · rwa [upd_ne hne] at hdx
      · have hdx1 : H1 dx = none := by rwa [upd_ne hne] at hdx
        have eH : upd (del (upd (upd (upd H1 a (exo a C none)) dx (exd dx [(f, L2.V.int i)])) a (exo a C (some dx))) a) dx (.xd [(f, .int i)]) = upd H1 dx (.xd [(f, .int i)]) := by
          funext b
          by_cases hb : b = dx
          · subst hb; rw [upd_same, upd_same]
          · rw [upd_ne hb, upd_ne hb]
            by_cases hb2 : b = a
            · subst hb2; rw [del_same, ha]
            · rw [del_ne hb2, upd_ne hb2, upd_ne hb, upd_ne hb2]
        rw [eH]
        obtain ⟨r2, v2⟩ := r1.tupNew (ho := .xd [(f, .int i)]) hdx1
        exact o1 m1 _ σ _ _ ((s.mv r1 v1).mv r2 v2) v2 ⟨hcl, .inr ⟨dx, _, rfl, upd_same, rfl, .cons (.int i) .nil⟩⟩
theorem ss_raiseTK (hK : X.K = B.G.K) (hc : X.calm = true) (tk : Takes X B.W) (C : ExTK X.prog X.w X.K X.mg X.base B.cl x f pm k) (hr : Room j X.A) (hj : 2 ≤ j) (hg : Gl X x) (ha : SK X B kws fs) (hdb : (x == ("__debug__" : Str)) = false)
    (hall : (backToKw pos (keywordEach kws X.env)).all (·.1.isSome) = true) (hks : (backToKw pos (keywordEach kws X.env)).filterMap (·.1) = [pm]) (hpl : ((backTo pos (starEach [] X.env)).any (·.1) || (backToKw pos (keywordEach kws X.env)).any (·.1.isNone)) = false) :
    SSt X B (.Raise (some (.Call (.Name x p) [] kws pos)) none pos') (sRsT k f fs) := by
  obtain ⟨C, Bn, newId, initId, bm, fI, fd, BE, T, hm, hcl, iC, tI, F, hb⟩ := C.ex
  refine ps_imp (ps_raise hc tk (pmk_ownK (CX := L2.CX X.prog X.w) BE T iC tI F (hr.mono hj) hb passes_no hg hm ha hdb hall hks hpl)) fun D σ H ⟨m, h, ρ, s, o⟩ => ⟨m, h, ρ, s, (OutS.bind s o).mono fun vs H1 ⟨ws, m1, h1, r1, v1, q1, o1⟩ => ?_⟩
  match ws, q1, o1 with
  | [.tup us], q1, o1 =>
    obtain ⟨v, rfl, rv⟩ := rws_one q1
    obtain ⟨b, xs, rfl, sq, rs⟩ := rw_tup rv
    simp only at o1
    cases ci : intsOk us with
    | false => rw [ci] at o1; exact o1.elim
    | true =>
      rw [ci] at o1
      unfold intsOk at ci
      rw [Bool.and_eq_true] at ci
      obtain ⟨l, rfl, ll, hi⟩ := ints_of ci.2 rs
      have hz : l.length ≤ 1000 := by rw [ll]; exact Nat.le_of_ble_eq_true ci.1
      refine ⟨by simp, fun a ha => ⟨a, b, l, rfl, ?_, hi, hz, upd_same, fun dx hdx hne => ⟨rfl, dx, [(f, .ref b)], upd_same, ?_, ?_, ?_⟩⟩⟩
      · have tk : TupK H1 (upd H1 a (exo a C none)) := fun c xs z => by
          have h1 : c ≠ a := fun y => by
            rw [y] at z
            rcases z with z | ⟨o, z⟩ <;> (rw [ha] at z; cases z)
          rcases z with z | ⟨o, z⟩
          · exact .inl (by rw [upd_ne h1]; exact z)
          · exact .inr ⟨o, by rw [upd_ne h1]; exact z⟩
        rw [hK]
        exact tk.seq sq
      · rw [upd_ne hne, upd_same]
      · rwa [upd_ne hne] at hdx
      · have hdx1 : H1 dx = none := by rwa [upd_ne hne] at hdx
        have eH : upd (del (upd (upd (upd H1 a (exo a C none)) dx (exd dx [(f, L2.V.ref b)])) a (exo a C (some dx))) a) dx (.xd [(f, .ref b)]) = upd H1 dx (.xd [(f, .ref b)]) := by
          funext c
          by_cases hb : c = dx
          · subst hb; rw [upd_same, upd_same]
          · rw [upd_ne hb, upd_ne hb]
            by_cases hb2 : c = a
            · subst hb2; rw [del_same, ha]
            · rw [del_ne hb2, upd_ne hb2, upd_ne hb, upd_ne hb2]
        rw [eH]
        obtain ⟨r2, v2⟩ := r1.tupNew (ho := .xd [(f, .ref b)]) hdx1
        exact o1 m1 _ σ _ _ ((s.mv r1 v1).mv r2 v2) v2 ⟨hcl, .inr ⟨dx, _, rfl, upd_same, rfl, .cons (rv.mono v2.old v2.le (v2.tupk r1)) .nil⟩⟩
end
abbrev ccOf (Cs : List Addr) : Nat → Option Addr := fun k => Cs[k]?
theorem ecc {Cs : List Addr} (k : Nat) : ∀ D, clOf Cs k = some (.ref D) → ccOf Cs k = some D := fun D e => by
  unfold clOf at e
  unfold ccOf
  cases q : Cs[k]? with
  | none => rw [q] at e; cases e
  | some C => rw [q] at e; cases e; rfl
theorem isT_nil {K : PySem.W.Frag} {cc : Nat → Option Addr} {cv : Value} : IsT K cc cv [] := fun _ _ e => by cases e
theorem isT_cons {K : PySem.W.Frag} {cc : Nat → Option Addr} {cv : Value} {k : Nat} {b : Bool} {C : Addr} {tb : List (Nat × Bool)} (hC : cc k = some C) (V : ExcC K C) (hk : PySem.W.kitOne K (.ref C) cv = some b) (r : IsT K cc cv tb) : IsT K cc cv ((k, b) :: tb) := fun c b' e D hD => by
  rw [List.lookup_cons] at e
  cases q : c == k with
  | true =>
    rw [q] at e
    cases e
    obtain rfl : c = k := by simpa using q
    rw [hC] at hD
    cases hD
    exact ⟨V, hk⟩
  | false => rw [q] at e; exact r c b' e D hD
section
open PySem.W
variable {P : Program} {w : World} {K : PySem.W.Frag} {mg : Str → Option Value} {base h : Heap} {Cs : List Addr} {C : Addr} {k : Nat} {x f pm : Str}
theorem exIK_mk {B newId initId : String} {bm : List Value} {fI : Addr} {fd : FuncData} (X : K.In h) (N : h.Ns mainGlobals mg) (hC : Cs[k]? = some C) (BE : BaseE B newId initId bm) (a : PySem.W.nsIn K mainGlobals x = some (some (.ref C))) (T : OwnE K C newId bm)
    (i : PySem.W.findIn K (.ref C) "__init__" = some (some (.ref fI))) (ty : PySem.W.typeIn K (.ref fI) = some (.type "function")) (F : FnOk P w K mg base (L2.CX P w) 1 fI fd ["self", pm] (spI C f)) (b : BindK fd pm) : ExIK P w K mg base (clOf Cs) x f pm k :=
  ⟨⟨C, B, newId, initId, bm, fI, fd, BE, T, PySem.W.mg_of X N a, clOf_at hC, i, ty, F, b⟩⟩
theorem exTK_mk {B newId initId : String} {bm : List Value} {fI : Addr} {fd : FuncData} (X : K.In h) (N : h.Ns mainGlobals mg) (hC : Cs[k]? = some C) (BE : BaseE B newId initId bm) (a : PySem.W.nsIn K mainGlobals x = some (some (.ref C))) (T : OwnE K C newId bm)
    (i : PySem.W.findIn K (.ref C) "__init__" = some (some (.ref fI))) (ty : PySem.W.typeIn K (.ref fI) = some (.type "function")) (F : FnOk P w K mg base (L2.CX P w) 1 fI fd ["self", pm] (spT K C f)) (b : BindK fd pm) : ExTK P w K mg base (clOf Cs) x f pm k :=
  ⟨⟨C, B, newId, initId, bm, fI, fd, BE, T, PySem.W.mg_of X N a, clOf_at hC, i, ty, F, b⟩⟩
end
end EV
namespace EV
open PySem PySem.Spec PyProof.Rows L2
def frS (f : FS) : FS := fun ρ h => match f (blankR ρ) Hpe.nil with
  | .nx ρ' _ => .nx (blankR ρ') h
  | .rt w _ => bif noRef w then .rt w h else .no
  | _ => .no
theorem SS.back {G : GC} {cf : CF} {m m' : Nat → Addr} {h h' : Hpe} {H H' : Hp} {ρ ρ' : Rho} {σ σ' : L2.St} (s : SS G cf m h ρ σ H) (s' : SS G cf m' h' ρ' σ' H') (mv : Mv m Hpe.nil.nx H m' h'.nx H') : SS G cf m h (blankR ρ') σ' H' where
  rh := s.rh.back s'.rh mv
  len := by unfold blankR; rw [List.length_map]; exact s'.len
  sl := fun i w e => by
    unfold blankR at e
    rw [List.getElem?_map] at e
    cases q : ρ'[i]? with
    | none => rw [q] at e; cases e
    | some o =>
      rw [q] at e
      cases o with
      | none => cases e
      | some w0 =>
        simp only [Option.map_some, blankO] at e
        cases d : noRef w0 with
        | false => rw [d] at e; cases e
        | true =>
          rw [d] at e
          cases e
          obtain ⟨v, e1, r⟩ := s'.sl i w q
          refine ⟨v, e1, ?_⟩
          cases r with
          | rw r => exact .rw (r.free d)
          | clo _ _ => cases d
theorem ss_fr {X : Cx} {B : Bx} {sts : List Stmt} {f : FS} (hf : SSs X B sts f) : SSs X B sts (frS f) := ⟨fun pins s σ H D I ⟨m, h, ρ, ss, o⟩ => hf.run pins s σ H D I ⟨m, Hpe.nil, blankR ρ, ss.blank, by
  unfold frS at o
  cases q : f (blankR ρ) Hpe.nil with
  | nx ρ' h' =>
    simp only [q] at o
    exact fun m' H' σ' s' mv => o m H' σ' (ss.back s' mv) (mv.back ss.rh)
  | rt w h' =>
    simp only [q] at o
    cases d : noRef w with
    | false => rw [d] at o; exact o.elim
    | true =>
      rw [d] at o
      exact fun m' H' v rh' mv rw => o m H' v (ss.rh.back rh' mv) (mv.back ss.rh) (rw.free d)
  | ex x ρ' h' => simp only [q] at o; exact o.elim
  | bk ρ' h' => simp only [q] at o; exact o.elim
  | ct ρ' h' => simp only [q] at o; exact o.elim
  | no => simp only [q] at o; exact o.elim⟩⟩
end EV
namespace L00
open PySem PySem.Spec PyProof.Rows L2 EV
def top (i : Nat) : Stmt := PySem.Challenge.pw_unwound_k00_errors.main.body.getD i (.Pass ⟨0, 0, 0, 0⟩)
abbrev Tab := Nat → List W → Hpe → Res W
abbrev s__law_same : Stmt := top 9
theorem sc__law_same : FnScope ["got", "goal", "mine_so", "own"] ["got", "goal"] (defScope s__law_same) := ⟨rfl, rfl, rfl, by decide +kernel, rfl, by decide +kernel, by decide +kernel⟩
def F__law_same (T : Tab) : FS :=
    (sSeq (sIf (asT (eIs2 Kd.list Kd.tuple (eV 1))) (sSeq (sIf (tOr' (asB (e2 (gEq true) (eIs Kd.list (eV 0)) (eIs Kd.list (eV 1)))) (asB (e2 (gEq true) (eIs Kd.tuple (eV 0)) (eIs Kd.tuple (eV 1))))) (sSeq (sRt (eK (.bl false)))
      sNil) sNil)
      (sSeq (sRt (eAn (e2 (gEq false) (eBl bLen3 (aC (eV 0) aN)) (eBl bLen3 (aC (eV 1) aN))) (eBl (bAllAny fun bs => bs.all id) (aC (eComp (.lst []) (iOr (ltR (aC (eV 0) (aC (eV 1) aN))) (iZMf (aC (eV 0) (aC (eV 1) aN))) (iZ (aC (eV 0) (aC (eV 1) aN)))) (gTL 2 (gsC (gN 2) (gsC (gN 3) gsN))) tYs (moreL (eCl 2 (T 0) (aC (eV 2) (aC (eV 3) aN)))) [2, 3]) aN))))
      sNil)) sNil)
      (sSeq (sIf (tOr' (asB (e2 (gIsN false) (eV 1) (eK .non))) (asT (eIs2 Kd.bool Kd.str (eV 1)))) (sSeq (sRt (eAn (e2 (gEq false) (eV 0) (eV 1)) (eAn (e2 (gEq false) (eIs Kd.bool (eV 0)) (eIs Kd.bool (eV 1))) (e2 (gEq false) (e2 (gIsN false) (eV 0) (eK .non)) (e2 (gIsN false) (eV 1) (eK .non))))))
      sNil) sNil)
      (sSeq (sRt (eAn (eIs Kd.int (eV 0)) (eAn (eNtT (eIs Kd.bool (eV 0))) (e2 (gEq false) (eV 0) (eV 1)))))
      sNil)))
abbrev s__law_caught : Stmt := top 10
theorem sc__law_caught : FnScope ["way_so", "worth", "error"] ["way_so", "worth"] (defScope s__law_caught) := ⟨rfl, rfl, rfl, by decide +kernel, rfl, by decide +kernel, by decide +kernel⟩
def F__law_caught (T : Tab) : FS :=
    (sSeq (sTryM (sSeq (sIf (asB (e2 (gEq false) (eV 0) (eK (.int 0)))) (sSeq (sRs1 0 "place" (aC (eV 1) aN))
      sNil) sNil)
      (sSeq (sIf (asB (e2 (gEq false) (eV 0) (eK (.int 1)))) (sSeq (sRs1 1 "line" (aC (eV 1) aN))
      sNil) sNil)
      (sSeq (sIf (asB (e2 (gEq false) (eV 0) (eK (.int 2)))) (sSeq (sRsT 5 "names" (aC (eV 1) aN))
      sNil) sNil)
      (sSeq (sIf (asB (e2 (gEq false) (eV 0) (eK (.int 3)))) (sSeq (sRsT 6 "names" (aC (eV 1) aN))
      sNil) sNil)
      (sSeq (sIf (asB (e2 (gEq false) (eV 0) (eK (.int 4)))) (sSeq (sRs1 0 "place" (aC (eV 1) aN))
      sNil) sNil)
      (sSeq (sIf (asB (e2 (gEq false) (eV 0) (eK (.int 5)))) (sSeq (sRs1 1 "line" (aC (eV 1) aN))
      sNil) sNil)
      (sSeq (sIf (asB (e2 (gEq false) (eV 0) (eK (.int 6)))) (sSeq (sRsT 5 "names" (aC (eV 1) aN))
      sNil) sNil)
      (sSeq (sRsT 6 "names" (aC (eV 1) aN))
      sNil)))))))) [(0, some 2, (xRt (xLst (xC (fun _ => (eK (.str "place"))) (xC (xFld "place") xN))))), (1, some 2, (xRt (xLst (xC (fun _ => (eK (.str "line"))) (xC (xFld "line") xN))))), (5, some 2, (xRt (xLst (xC (fun _ => (eK (.str "ring"))) (xC (xFld "names") xN))))), (6, some 2, (xRt (xLst (xC (fun _ => (eK (.str "endless"))) (xC (xFld "names") xN)))))])
      sNil)
abbrev s__law_plain : Stmt := top 11
theorem sc__law_plain : FnScope ["error"] ["error"] (defScope s__law_plain) := ⟨rfl, rfl, rfl, by decide +kernel, rfl, by decide +kernel, by decide +kernel⟩
def F__law_plain (T : Tab) : FS :=
    (sSeq (sRt (eLst (aC (eIsE [(0, true), (1, false), (2, false), (3, false), (4, false), (5, false), (6, false)] (eV 0)) (aC (eIsE [(0, false), (1, true), (2, true), (3, true), (4, true), (5, true), (6, true)] (eV 0)) (aC (eIsE [(0, false), (1, false), (2, false), (3, false), (4, false), (5, false), (6, false)] (eV 0)) (aC (eIsE [(0, false), (1, false), (2, false), (3, false), (4, false), (5, false), (6, false)] (eV 0)) aN))))))
      sNil)
abbrev s__law_kinds : Stmt := top 12
theorem sc__law_kinds : FnScope ["error", "found"] ["error"] (defScope s__law_kinds) := ⟨rfl, rfl, rfl, by decide +kernel, rfl, by decide +kernel, by decide +kernel⟩
def F__law_kinds (T : Tab) : FS :=
    (sSeq (sAs (eLst (aC (eIsE [(0, true), (1, false), (2, false), (3, false), (4, false), (5, false), (6, false)] (eV 0)) (aC (eIsE [(0, false), (1, true), (2, false), (3, false), (4, false), (5, false), (6, false)] (eV 0)) (aC (eIsE [(0, false), (1, false), (2, true), (3, false), (4, false), (5, false), (6, false)] (eV 0)) (aC (eIsE [(0, false), (1, false), (2, false), (3, true), (4, false), (5, false), (6, false)] (eV 0)) aN))))) (gN 1))
      (sSeq (sRt (e2 gAdd (eV 1) (eLst (aC (eIsE [(0, false), (1, false), (2, false), (3, false), (4, true), (5, false), (6, false)] (eV 0)) (aC (eIsE [(0, false), (1, false), (2, false), (3, false), (4, false), (5, true), (6, false)] (eV 0)) (aC (eIsE [(0, false), (1, false), (2, false), (3, false), (4, false), (5, false), (6, true)] (eV 0)) aN))))))
      sNil))
abbrev s__law_by_hand_right : Stmt := top 13
theorem sc__law_by_hand_right : FnScope ["made_so", "told", "own", "due", "far", "k"] [] (defScope s__law_by_hand_right) := ⟨rfl, rfl, rfl, by decide +kernel, rfl, by decide +kernel, by decide +kernel⟩
def F__law_by_hand_right (T : Tab) : FS :=
    (sSeq (sAs (eLst (aC (eMk1 0 (aC (eK (.int 7)) aN)) (aC (eMk1 1 (aC (eK (.int 7)) aN)) (aC (eMk0 2) (aC (eMk0 3) (aC (eMk0 4) (aC (eMkT 5 (aC (eTup (aC (eK (.int 0)) (aC (eK (.int 1)) aN))) aN)) (aC (eMkT 6 (aC (eTup (aC (eK (.int 0)) aN)) aN)) aN)))))))) (gN 0))
      (sSeq (sUn (sAs (eComp (.lst []) (iV3 (eV 0)) (gN 2) tYs (moreL (eCl 1 (T 2) (aC (eV 2) aN))) [2]) (gN 1)))
      (sSeq (sAs (e2 gAdd (eLst (aC (eLst (aC (eK (.bl true)) (aC (eK (.bl false)) (aC (eK (.bl false)) (aC (eK (.bl false)) aN))))) aN)) (e2 gMul (eLst (aC (eLst (aC (eK (.bl false)) (aC (eK (.bl true)) (aC (eK (.bl false)) (aC (eK (.bl false)) aN))))) aN)) (eK (.int 6)))) (gN 3))
      (sSeq (sUn (sAs (e2 gAdd (eV 1) (eComp (.lst []) (iV3 (eV 0)) (gN 2) tYs (moreL (eCl 1 (T 3) (aC (eV 2) aN))) [2])) (gN 1)))
      (sSeq (sAs (e2 gAdd (eV 3) (eLc (iR1 (aC (eK (.int 7)) aN)) (gN 5) tYs (eLc (iR1 (aC (eK (.int 7)) aN)) (gN 4) tYs (e2 (gEq false) (eV 5) (eV 4)) [4]) [5])) (gN 3))
      (sSeq (sRt (eCl 2 (T 0) (aC (eV 1) (aC (eV 3) aN))))
      sNil))))))
abbrev s_law : Stmt := top 14
theorem sc_law : FnScope ["script", "cell", "place_so", "line_so", "lot", "told", "way_so"] ["script"] (defScope s_law) := ⟨rfl, rfl, rfl, by decide +kernel, rfl, by decide +kernel, by decide +kernel⟩
def F_law (T : Tab) : FS :=
    (sSeq (sIf (tNt (asT (eCl0 (T 4)))) (sSeq (sRt (eK (.bl false)))
      sNil) sNil)
      (sSeq (sUn (sFor (iV3 (e2 gAdd (eBl bLst3 (aC (eSl (eV 0) oN (oS (eK (.int 8)))) aN)) (eLst (aC (eK (.int 0)) (aC (eK (.int 1)) (aC (eK (.int 999)) aN)))))) (gN 1) (frS (sSeq (sAs (e2 (gI (fun _ j => decide (0 < j)) fun i j => i % j) (eBl bInt (aC (eBl bAbs (aC (eV 1) aN)) aN)) (eK (.int 1000))) (gN 2))
      (sSeq (sAs (eTup (aC (e2 gAdd (eV 2) (eK (.int 1))) (aC (eTup (aC (eV 2) (aC (e2 gAdd (eV 2) (eK (.int 1))) aN))) aN))) (gTL 2 (gsC (gN 3) (gsC (gN 4) gsN))))
      (sSeq (sAs (eComp (.lst []) (iR1 (aC (eK (.int 8)) aN)) (gN 6) tYs (moreL (eCl 2 (T 1) (aC (eV 6) (aC (eIf (asB (e2 (gEq false) (e2 (gI (fun _ j => decide (0 < j)) fun i j => i % j) (eV 6) (eK (.int 4))) (eK (.int 0)))) (eV 2) (eIf (asB (e2 (gEq false) (e2 (gI (fun _ j => decide (0 < j)) fun i j => i % j) (eV 6) (eK (.int 4))) (eK (.int 1)))) (eV 3) (eV 4))) aN)))) [6]) (gN 5))
      (sSeq (sIf (tNt (asT (eCl 2 (T 0) (aC (eV 5) (aC (e2 gMul (eLst (aC (eLst (aC (eK (.str "place")) (aC (eV 2) aN))) (aC (eLst (aC (eK (.str "line")) (aC (eV 3) aN))) (aC (eLst (aC (eK (.str "ring")) (aC (eV 4) aN))) (aC (eLst (aC (eK (.str "endless")) (aC (eV 4) aN))) aN))))) (eK (.int 2))) aN))))) (sSeq (sRt (eK (.bl false)))
      sNil) sNil)
      sNil)))))))
      (sSeq (sRt (eK (.bl true)))
      sNil)))
def NM : List (Pos × Str) := []
def TX : List (Nat × CTx) := []
def bodies (T : Tab) : BT := (.nd (some (runB 4 (F__law_same T))) (.nd (some (runB 3 (F__law_caught T))) (.nd (some (runB 2 (F__law_kinds T))) .lf .lf) (.nd (some (runB 7 (F_law T))) .lf .lf)) (.nd (some (runB 1 (F__law_plain T))) (.nd (some (frm (runB 6 (F__law_by_hand_right T)))) .lf .lf) .lf))
def callE : Nat → Tab
  | 0 => fun _ _ _ => .no
  | d + 1 => (bodies (callE d)).get
theorem callE_at (k d : Nat) : callE (d + 1) k = (bodies (callE d)).get k := rfl
structure Ds (P : Program) (w : World) (K : PySem.W.Frag) (mg : Str → Option Value) (base : Heap) (G : GC) (cl : Cls) (T : Tab) (d : Nat) : Prop where
  d0 : DfE P w K mg base G cl "_law_same" ["got", "goal"] (2 * d + 2) (T 0)
  d1 : DfE P w K mg base G cl "_law_caught" ["way_so", "worth"] (2 * d + 2) (T 1)
  d2 : DfE P w K mg base G cl "_law_plain" ["error"] (2 * d + 2) (T 2)
  d3 : DfE P w K mg base G cl "_law_kinds" ["error"] (2 * d + 2) (T 3)
  d4 : DfE P w K mg base G cl "_law_by_hand_right" [] (2 * d + 2) (T 4)
  d5 : DfE P w K mg base G cl "law" ["script"] (2 * d + 2) (T 5)
  i_NoPlace : ExI P w K mg base cl "NoPlace" "place" 0
  ik_NoPlace : ExIK P w K mg base cl "NoPlace" "place" "place" 0
  ec_NoPlace : ∀ D, cl 0 = some (.ref D) → G.cc 0 = some D
  v_NoPlace : ExV K cl 0
  f_NoPlace_place : ∀ D, cl 0 = some (.ref D) → PySem.W.findIn K (.ref D) "place" = some none
  n_NoPlace : ExN K mg cl "NoPlace" 0
  i_BadLine : ExI P w K mg base cl "BadLine" "line" 1
  ik_BadLine : ExIK P w K mg base cl "BadLine" "line" "line" 1
  ec_BadLine : ∀ D, cl 1 = some (.ref D) → G.cc 1 = some D
  v_BadLine : ExV K cl 1
  f_BadLine_line : ∀ D, cl 1 = some (.ref D) → PySem.W.findIn K (.ref D) "line" = some none
  n_BadLine : ExN K mg cl "BadLine" 1
  e_CanNot : ExE K mg cl "CanNot" 2
  ec_CanNot : ∀ D, cl 2 = some (.ref D) → G.cc 2 = some D
  e_TooMuch : ExE K mg cl "TooMuch" 3
  ec_TooMuch : ∀ D, cl 3 = some (.ref D) → G.cc 3 = some D
  e_Unfit : ExE K mg cl "Unfit" 4
  ec_Unfit : ∀ D, cl 4 = some (.ref D) → G.cc 4 = some D
  t_Ring : ExT P w K mg base cl "Ring" "names" 5
  tk_Ring : ExTK P w K mg base cl "Ring" "names" "names" 5
  ec_Ring : ∀ D, cl 5 = some (.ref D) → G.cc 5 = some D
  v_Ring : ExV K cl 5
  f_Ring_names : ∀ D, cl 5 = some (.ref D) → PySem.W.findIn K (.ref D) "names" = some none
  n_Ring : ExN K mg cl "Ring" 5
  t_Endless : ExT P w K mg base cl "Endless" "names" 6
  tk_Endless : ExTK P w K mg base cl "Endless" "names" "names" 6
  ec_Endless : ∀ D, cl 6 = some (.ref D) → G.cc 6 = some D
  v_Endless : ExV K cl 6
  f_Endless_names : ∀ D, cl 6 = some (.ref D) → PySem.W.findIn K (.ref D) "names" = some none
  n_Endless : ExN K mg cl "Endless" 6
  is_BadLine : ∃ D, mg "BadLine" = some (.ref D) ∧ IsT K G.cc (.ref D) [(0, false), (1, true), (2, false), (3, false), (4, false), (5, false), (6, false)]
  is_CanNot : ∃ D, mg "CanNot" = some (.ref D) ∧ IsT K G.cc (.ref D) [(0, false), (1, false), (2, true), (3, false), (4, false), (5, false), (6, false)]
  is_Endless : ∃ D, mg "Endless" = some (.ref D) ∧ IsT K G.cc (.ref D) [(0, false), (1, false), (2, false), (3, false), (4, false), (5, false), (6, true)]
  is_IndexError : IsT K G.cc (.type "IndexError") [(0, false), (1, false), (2, false), (3, false), (4, false), (5, false), (6, false)]
  is_KeyError : IsT K G.cc (.type "KeyError") [(0, false), (1, false), (2, false), (3, false), (4, false), (5, false), (6, false)]
  is_LookupError : IsT K G.cc (.type "LookupError") [(0, true), (1, false), (2, false), (3, false), (4, false), (5, false), (6, false)]
  is_NoPlace : ∃ D, mg "NoPlace" = some (.ref D) ∧ IsT K G.cc (.ref D) [(0, true), (1, false), (2, false), (3, false), (4, false), (5, false), (6, false)]
  is_Ring : ∃ D, mg "Ring" = some (.ref D) ∧ IsT K G.cc (.ref D) [(0, false), (1, false), (2, false), (3, false), (4, false), (5, true), (6, false)]
  is_TooMuch : ∃ D, mg "TooMuch" = some (.ref D) ∧ IsT K G.cc (.ref D) [(0, false), (1, false), (2, false), (3, true), (4, false), (5, false), (6, false)]
  is_Unfit : ∃ D, mg "Unfit" = some (.ref D) ∧ IsT K G.cc (.ref D) [(0, false), (1, false), (2, false), (3, false), (4, true), (5, false), (6, false)]
  is_ValueError : IsT K G.cc (.type "ValueError") [(0, false), (1, true), (2, true), (3, true), (4, true), (5, true), (6, true)]
end L00
namespace L00
open PySem PySem.Spec PyProof.Rows L2 EV
section
variable {P : Program} {w : World} {K : PySem.W.Frag} {mg : Str → Option Value} {base : Heap} {G : GC} {cl : Cls} {T : Tab} {d : Nat} {f : Addr} {fd : FuncData}
theorem ok__law_same (F : Fun K "_law_same" "_law_same" s__law_same f fd) (hK : K = G.K) (hP : P = G.prog) (hW : w = G.wo) (hX : GX G NM TX) (D : Ds P w K mg base G cl T d) (m_all : mg "all" = none) (m_bool : mg "bool" = none) (m_int : mg "int" = none) (m_isinstance : mg "isinstance" = none) (m_len : mg "len" = none) (m_list : mg "list" = none) (m_str : mg "str" = none) (m_tuple : mg "tuple" = none) (m_zip : mg "zip" = none) : FnE P w K mg base (2 * d + 3 + 1) f fd ["got", "goal"] G cl (runB 4 (F__law_same T)) :=
  ok_E F sc__law_same fun cdv A outer s H E hr => by
    have hu := hr.units
    exact (ss_cons (ss_if (st_tru hK (se_isi2 (t := Kd.list) (t' := Kd.tuple) hK m_isinstance rfl (se_w 1) (pe_bltn rfl m_list (by decide +kernel) rfl) (pe_bltn rfl m_tuple (by decide +kernel) rfl) rfl rfl rfl rfl rfl) (by intro _; rfl)) (ss_cons (ss_if (SW.st (sw_or (st_ne hK hu (se_isi (t := Kd.list) hK m_isinstance rfl (se_w 0) (pe_bltn rfl m_list (by decide +kernel) rfl) rfl rfl rfl) (se_isi (t := Kd.list) hK m_isinstance rfl (se_w 1) (pe_bltn rfl m_list (by decide +kernel) rfl) rfl rfl rfl)) (sw_or1 (st_ne hK hu (se_isi (t := Kd.tuple) hK m_isinstance rfl (se_w 0) (pe_bltn rfl m_tuple (by decide +kernel) rfl) rfl rfl rfl) (se_isi (t := Kd.tuple) hK m_isinstance rfl (se_w 1) (pe_bltn rfl m_tuple (by decide +kernel) rfl) rfl rfl rfl))))) (ss_cons (ss_ret se_bl)
      ss_nil) ss_nil)
      (ss_cons (ss_ret (se_and (se_eq hK hu (se_len3 hK ⟨hP, hW⟩ m_len rfl (sa_cons (se_w 0) sa_nil rfl) rfl rfl) (se_len3 hK ⟨hP, hW⟩ m_len rfl (sa_cons (se_w 1) sa_nil rfl) rfl rfl)) (se_one (se_all hK rfl m_all rfl (sa_cons (se_compL (own := [("mine_so", 2), ("own", 3)]) hW rfl sc__law_same.nd ⟨_, _, rfl, rfl, rfl⟩ (takesH_of (takes_of rfl rfl rfl rfl) rfl) (si_or (ltR (aC (eV 0) (aC (eV 1) aN))) (si_zipM hK rfl m_zip (sa_cons (se_w 0) (sa_cons (se_w 1) sa_nil rfl) rfl) rfl rfl) (si_zip hK rfl m_zip (sa_cons (se_w 0) (sa_cons (se_w 1) sa_nil rfl) rfl) rfl rfl)) (blkOk_by (own := [("mine_so", 2), ("own", 3)]) (show blkC ["got", "goal", "mine_so", "own"] (defScope s__law_same) _ _ = true by decide +kernel)) (fun _ => trivial) (fun Wk1 _ _ _ _ _ tk1 th1 st1 lk1 => (sg_tl hK (n := 2) rfl (sgs_cons (sg_n (pg_name (i := 2) sc__law_same.nd rfl (by first | exact Or.inl rfl | exact Or.inr rfl))) (sgs_cons (sg_n (pg_name (i := 3) sc__law_same.nd rfl (by first | exact Or.inl rfl | exact Or.inr rfl))) sgs_nil rfl) rfl) rfl rfl)) (fun Wk1 _ _ _ _ _ tk1 th1 st1 lk1 => sts_nil) (fun Wk1 _ _ _ _ _ tk1 th1 st1 lk1 => (sb_l rfl (se_call D.d0 tk1 (hr.mono (Nat.le_succ _)) rfl (sa_cons (se_w 2) (sa_cons (se_w 3) sa_nil rfl) rfl) (by decide) rfl rfl rfl))) (by decide) (by decide) (by intro _; rfl)) sa_nil rfl) rfl rfl))))
      ss_nil)) ss_nil)
      (ss_cons (ss_if (SW.st (sw_or (st_isN (se_w 1) se_non) (sw_or1 (st_tru hK (se_isi2 (t := Kd.bool) (t' := Kd.str) hK m_isinstance rfl (se_w 1) (pe_bltn rfl m_bool (by decide +kernel) rfl) (pe_bltn rfl m_str (by decide +kernel) rfl) rfl rfl rfl rfl rfl) (by intro _; rfl))))) (ss_cons (ss_ret (se_and (se_eq hK hu (se_w 0) (se_w 1)) (se_and (se_eq hK hu (se_isi (t := Kd.bool) hK m_isinstance rfl (se_w 0) (pe_bltn rfl m_bool (by decide +kernel) rfl) rfl rfl rfl) (se_isi (t := Kd.bool) hK m_isinstance rfl (se_w 1) (pe_bltn rfl m_bool (by decide +kernel) rfl) rfl rfl rfl)) (se_one (se_eq hK hu (se_isN (se_w 0) se_non) (se_isN (se_w 1) se_non))))))
      ss_nil) ss_nil)
      (ss_cons (ss_ret (se_and (se_isi (t := Kd.int) hK m_isinstance rfl (se_w 0) (pe_bltn rfl m_int (by decide +kernel) rfl) rfl rfl rfl) (se_and (se_notT hK (se_isi (t := Kd.bool) hK m_isinstance rfl (se_w 0) (pe_bltn rfl m_bool (by decide +kernel) rfl) rfl rfl rfl)) (se_one (se_eq hK hu (se_w 0) (se_w 1))))))
      ss_nil)))
theorem ok__law_caught (F : Fun K "_law_caught" "_law_caught" s__law_caught f fd) (hK : K = G.K) (hP : P = G.prog) (hW : w = G.wo) (hX : GX G NM TX) (D : Ds P w K mg base G cl T d) : FnE P w K mg base (2 * d + 3 + 1) f fd ["way_so", "worth"] G cl (runB 3 (F__law_caught T)) :=
  ok_E F sc__law_caught fun cdv A outer s H E hr => by
    have hu := hr.units
    exact (ss_cons (ss_tryM sc__law_caught.nd rfl rfl (takes_of rfl rfl rfl rfl) (fun W pn xe tk po => (ss_cons (ss_if (st_eq hK hu (se_w 0) se_int) (ss_cons (ss_raise1 rfl tk D.i_NoPlace hr (by omega) rfl (sa_cons (se_w 1) sa_nil rfl) (by decide) rfl rfl)
      ss_nil) ss_nil)
      (ss_cons (ss_if (st_eq hK hu (se_w 0) se_int) (ss_cons (ss_raise1 rfl tk D.i_BadLine hr (by omega) rfl (sa_cons (se_w 1) sa_nil rfl) (by decide) rfl rfl)
      ss_nil) ss_nil)
      (ss_cons (ss_if (st_eq hK hu (se_w 0) se_int) (ss_cons (ss_raiseT hK rfl tk D.t_Ring hr (by omega) rfl (sa_cons (se_w 1) sa_nil rfl) (by decide) rfl rfl)
      ss_nil) ss_nil)
      (ss_cons (ss_if (st_eq hK hu (se_w 0) se_int) (ss_cons (ss_raiseT hK rfl tk D.t_Endless hr (by omega) rfl (sa_cons (se_w 1) sa_nil rfl) (by decide) rfl rfl)
      ss_nil) ss_nil)
      (ss_cons (ss_if (st_eq hK hu (se_w 0) se_int) (ss_cons (ss_raise1K rfl tk D.ik_NoPlace hr (by omega) rfl (sk_cons (se_w 1) sk_nil) (by decide) rfl rfl rfl)
      ss_nil) ss_nil)
      (ss_cons (ss_if (st_eq hK hu (se_w 0) se_int) (ss_cons (ss_raise1K rfl tk D.ik_BadLine hr (by omega) rfl (sk_cons (se_w 1) sk_nil) (by decide) rfl rfl rfl)
      ss_nil) ss_nil)
      (ss_cons (ss_if (st_eq hK hu (se_w 0) se_int) (ss_cons (ss_raiseTK hK rfl tk D.tk_Ring hr (by omega) rfl (sk_cons (se_w 1) sk_nil) (by decide) rfl rfl rfl)
      ss_nil) ss_nil)
      (ss_cons (ss_raiseTK hK rfl tk D.tk_Endless hr (by omega) rfl (sk_cons (se_w 1) sk_nil) (by decide) rfl rfl rfl)
      ss_nil))))))))) (.consAs (i := 2) rfl (by decide) D.n_NoPlace rfl rfl (fun _ _ _ _ _ hz hf => (sx_ret (sx_lst (sx_cons (sx_of se_str) (sx_cons (sx_fld hz hf D.v_NoPlace D.f_NoPlace_place rfl (by first | exact Or.inl rfl | exact Or.inr (Or.inl rfl) | exact Or.inr (Or.inr rfl)) (by decide) (by decide) rfl) sx_nil rfl) rfl)))) (.consAs (i := 2) rfl (by decide) D.n_BadLine rfl rfl (fun _ _ _ _ _ hz hf => (sx_ret (sx_lst (sx_cons (sx_of se_str) (sx_cons (sx_fld hz hf D.v_BadLine D.f_BadLine_line rfl (by first | exact Or.inl rfl | exact Or.inr (Or.inl rfl) | exact Or.inr (Or.inr rfl)) (by decide) (by decide) rfl) sx_nil rfl) rfl)))) (.consAs (i := 2) rfl (by decide) D.n_Ring rfl rfl (fun _ _ _ _ _ hz hf => (sx_ret (sx_lst (sx_cons (sx_of se_str) (sx_cons (sx_fld hz hf D.v_Ring D.f_Ring_names rfl (by first | exact Or.inl rfl | exact Or.inr (Or.inl rfl) | exact Or.inr (Or.inr rfl)) (by decide) (by decide) rfl) sx_nil rfl) rfl)))) (.consAs (i := 2) rfl (by decide) D.n_Endless rfl rfl (fun _ _ _ _ _ hz hf => (sx_ret (sx_lst (sx_cons (sx_of se_str) (sx_cons (sx_fld hz hf D.v_Endless D.f_Endless_names rfl (by first | exact Or.inl rfl | exact Or.inr (Or.inl rfl) | exact Or.inr (Or.inr rfl)) (by decide) (by decide) rfl) sx_nil rfl) rfl)))) HM.nil)))))
      ss_nil)
theorem ok__law_plain (F : Fun K "_law_plain" "_law_plain" s__law_plain f fd) (hK : K = G.K) (hP : P = G.prog) (hW : w = G.wo) (hX : GX G NM TX) (D : Ds P w K mg base G cl T d) (m_IndexError : mg "IndexError" = none) (m_KeyError : mg "KeyError" = none) (m_LookupError : mg "LookupError" = none) (m_ValueError : mg "ValueError" = none) (m_isinstance : mg "isinstance" = none) : FnE P w K mg base (2 * d + 3 + 1) f fd ["error"] G cl (runB 1 (F__law_plain T)) :=
  ok_E F sc__law_plain fun cdv A outer s H E hr => by
    have hu := hr.units
    exact (ss_cons (ss_ret (se_lst (sa_cons (se_isE (vt := .ty "LookupError") hK m_isinstance rfl D.is_LookupError (se_w 0) (pe_bltn rfl m_LookupError (by decide +kernel) rfl) (fun _ z => z) rfl rfl rfl) (sa_cons (se_isE (vt := .ty "ValueError") hK m_isinstance rfl D.is_ValueError (se_w 0) (pe_bltn rfl m_ValueError (by decide +kernel) rfl) (fun _ z => z) rfl rfl rfl) (sa_cons (se_isE (vt := .ty "KeyError") hK m_isinstance rfl D.is_KeyError (se_w 0) (pe_bltn rfl m_KeyError (by decide +kernel) rfl) (fun _ z => z) rfl rfl rfl) (sa_cons (se_isE (vt := .ty "IndexError") hK m_isinstance rfl D.is_IndexError (se_w 0) (pe_bltn rfl m_IndexError (by decide +kernel) rfl) (fun _ z => z) rfl rfl rfl) sa_nil rfl) rfl) rfl) rfl)))
      ss_nil)
theorem ok__law_kinds (F : Fun K "_law_kinds" "_law_kinds" s__law_kinds f fd) (hK : K = G.K) (hP : P = G.prog) (hW : w = G.wo) (hX : GX G NM TX) (D : Ds P w K mg base G cl T d) (m_isinstance : mg "isinstance" = none) : FnE P w K mg base (2 * d + 3 + 1) f fd ["error"] G cl (runB 2 (F__law_kinds T)) :=
  ok_E F sc__law_kinds fun cdv A outer s H E hr => by
    have hu := hr.units
    exact (ss_cons (ss_set (i := 1) sc__law_kinds.nd rfl (by first | exact Or.inl rfl | exact Or.inr rfl) (se_lst (sa_cons (se_isE (vt := .ref D.is_NoPlace.choose) hK m_isinstance rfl D.is_NoPlace.choose_spec.2 (se_w 0) (pe_glob rfl D.is_NoPlace.choose_spec.1 (v := .ref D.is_NoPlace.choose) rfl (by decide)) (fun _ z => z) rfl rfl rfl) (sa_cons (se_isE (vt := .ref D.is_BadLine.choose) hK m_isinstance rfl D.is_BadLine.choose_spec.2 (se_w 0) (pe_glob rfl D.is_BadLine.choose_spec.1 (v := .ref D.is_BadLine.choose) rfl (by decide)) (fun _ z => z) rfl rfl rfl) (sa_cons (se_isE (vt := .ref D.is_CanNot.choose) hK m_isinstance rfl D.is_CanNot.choose_spec.2 (se_w 0) (pe_glob rfl D.is_CanNot.choose_spec.1 (v := .ref D.is_CanNot.choose) rfl (by decide)) (fun _ z => z) rfl rfl rfl) (sa_cons (se_isE (vt := .ref D.is_TooMuch.choose) hK m_isinstance rfl D.is_TooMuch.choose_spec.2 (se_w 0) (pe_glob rfl D.is_TooMuch.choose_spec.1 (v := .ref D.is_TooMuch.choose) rfl (by decide)) (fun _ z => z) rfl rfl rfl) sa_nil rfl) rfl) rfl) rfl)) rfl (by first | exact Or.inl rfl | exact Or.inr rfl))
      (ss_cons (ss_ret (se_add hK (se_w 1) (se_lst (sa_cons (se_isE (vt := .ref D.is_Unfit.choose) hK m_isinstance rfl D.is_Unfit.choose_spec.2 (se_w 0) (pe_glob rfl D.is_Unfit.choose_spec.1 (v := .ref D.is_Unfit.choose) rfl (by decide)) (fun _ z => z) rfl rfl rfl) (sa_cons (se_isE (vt := .ref D.is_Ring.choose) hK m_isinstance rfl D.is_Ring.choose_spec.2 (se_w 0) (pe_glob rfl D.is_Ring.choose_spec.1 (v := .ref D.is_Ring.choose) rfl (by decide)) (fun _ z => z) rfl rfl rfl) (sa_cons (se_isE (vt := .ref D.is_Endless.choose) hK m_isinstance rfl D.is_Endless.choose_spec.2 (se_w 0) (pe_glob rfl D.is_Endless.choose_spec.1 (v := .ref D.is_Endless.choose) rfl (by decide)) (fun _ z => z) rfl rfl rfl) sa_nil rfl) rfl) rfl))))
      ss_nil))
theorem ok__law_by_hand_right (F : Fun K "_law_by_hand_right" "_law_by_hand_right" s__law_by_hand_right f fd) (hK : K = G.K) (hP : P = G.prog) (hW : w = G.wo) (hX : GX G NM TX) (D : Ds P w K mg base G cl T d) (m_range : mg "range" = none) : FnE P w K mg base (2 * d + 3 + 1) f fd [] G cl (frm (runB 6 (F__law_by_hand_right T))) :=
  FnE.frm (ok_E F sc__law_by_hand_right fun cdv A outer s H E hr => by
    have hu := hr.units
    exact (ss_cons (ss_set (i := 0) sc__law_by_hand_right.nd rfl (by first | exact Or.inl rfl | exact Or.inr rfl) (se_lst (sa_cons (se_mk1 D.ec_NoPlace D.i_NoPlace hr (by omega) rfl (sa_cons se_int sa_nil rfl) (by decide) rfl rfl) (sa_cons (se_mk1 D.ec_BadLine D.i_BadLine hr (by omega) rfl (sa_cons se_int sa_nil rfl) (by decide) rfl rfl) (sa_cons (se_mk0 D.e_CanNot D.ec_CanNot rfl (by decide)) (sa_cons (se_mk0 D.e_TooMuch D.ec_TooMuch rfl (by decide)) (sa_cons (se_mk0 D.e_Unfit D.ec_Unfit rfl (by decide)) (sa_cons (se_mkT hK D.ec_Ring D.t_Ring hr (by omega) rfl (sa_cons (se_tup (sa_cons se_int (sa_cons se_int sa_nil rfl) rfl)) sa_nil rfl) (by decide) rfl rfl) (sa_cons (se_mkT hK D.ec_Endless D.t_Endless hr (by omega) rfl (sa_cons (se_tup (sa_cons se_int sa_nil rfl)) sa_nil rfl) (by decide) rfl rfl) sa_nil rfl) rfl) rfl) rfl) rfl) rfl) rfl)) rfl (by first | exact Or.inl rfl | exact Or.inr rfl))
      (ss_cons (ss_un (ss_compL (i := 1) (own := [("own", 2)]) hW rfl sc__law_by_hand_right.nd rfl rfl rfl rfl (by decide +kernel) ⟨_, _, rfl, rfl, rfl⟩ (takesH_of (takes_of rfl rfl rfl rfl) rfl) (si_v3 hK (se_w 0)) (blkOk_by (own := [("own", 2)]) (show blkC ["made_so", "told", "own", "due", "far", "k"] (defScope s__law_by_hand_right) _ _ = true by decide +kernel)) (fun _ => trivial) (fun Wk1 _ _ _ _ _ tk1 th1 st1 lk1 => (sg_n (pg_name (i := 2) sc__law_by_hand_right.nd rfl (by first | exact Or.inl rfl | exact Or.inr rfl)))) (fun Wk1 _ _ _ _ _ tk1 th1 st1 lk1 => sts_nil) (fun Wk1 _ _ _ _ _ tk1 th1 st1 lk1 => (sb_l rfl (se_call D.d2 tk1 (hr.mono (Nat.le_succ _)) rfl (sa_cons (se_w 2) sa_nil rfl) (by decide) rfl rfl rfl))) (by decide) (by decide) (by intro _; rfl)))
      (ss_cons (ss_set (i := 3) sc__law_by_hand_right.nd rfl (by first | exact Or.inl rfl | exact Or.inr rfl) (se_add hK (se_lst (sa_cons (se_lst (sa_cons se_bl (sa_cons se_bl (sa_cons se_bl (sa_cons se_bl sa_nil rfl) rfl) rfl) rfl)) sa_nil rfl)) (se_mul hK (se_lst (sa_cons (se_lst (sa_cons se_bl (sa_cons se_bl (sa_cons se_bl (sa_cons se_bl sa_nil rfl) rfl) rfl) rfl)) sa_nil rfl)) se_int)) rfl (by first | exact Or.inl rfl | exact Or.inr rfl))
      (ss_cons (ss_un (ss_set (i := 1) sc__law_by_hand_right.nd rfl (by first | exact Or.inl rfl | exact Or.inr rfl) (se_add hK (se_w 1) (se_compL (own := [("own", 2)]) hW rfl sc__law_by_hand_right.nd ⟨_, _, rfl, rfl, rfl⟩ (takesH_of (takes_of rfl rfl rfl rfl) rfl) (si_v3 hK (se_w 0)) (blkOk_by (own := [("own", 2)]) (show blkC ["made_so", "told", "own", "due", "far", "k"] (defScope s__law_by_hand_right) _ _ = true by decide +kernel)) (fun _ => trivial) (fun Wk1 _ _ _ _ _ tk1 th1 st1 lk1 => (sg_n (pg_name (i := 2) sc__law_by_hand_right.nd rfl (by first | exact Or.inl rfl | exact Or.inr rfl)))) (fun Wk1 _ _ _ _ _ tk1 th1 st1 lk1 => sts_nil) (fun Wk1 _ _ _ _ _ tk1 th1 st1 lk1 => (sb_l rfl (se_call D.d3 tk1 (hr.mono (Nat.le_succ _)) rfl (sa_cons (se_w 2) sa_nil rfl) (by decide) rfl rfl rfl))) (by decide) (by decide) (by intro _; rfl))) rfl (by first | exact Or.inl rfl | exact Or.inr rfl)))
      (ss_cons (ss_set (i := 3) sc__law_by_hand_right.nd rfl (by first | exact Or.inl rfl | exact Or.inr rfl) (se_add hK (se_w 3) (se_lc (own := [("k", 5)]) rfl sc__law_by_hand_right.nd (si_r1 rfl m_range (sa_cons se_int sa_nil rfl) rfl) (blkOk_by (own := [("k", 5)]) (show blkC ["made_so", "told", "own", "due", "far", "k"] (defScope s__law_by_hand_right) _ _ = true by decide +kernel)) (fun _ _ _ _ _ => (sg_n (pg_name (i := 5) sc__law_by_hand_right.nd rfl (by first | exact Or.inl rfl | exact Or.inr rfl)))) (fun _ _ _ _ _ => sts_nil) (fun _ _ _ _ _ => (se_lc (own := [("far", 4)]) rfl sc__law_by_hand_right.nd (si_r1 rfl m_range (sa_cons se_int sa_nil rfl) rfl) (blkOk_by (own := [("far", 4)]) (by dsimp only [Cx.blk, blkX, compEnvC, cxOf, genEnv]; (try simp only [rel_eq, rel_eq2]); (try simp only [rel_any]); decide +kernel)) (fun _ _ _ _ _ => (sg_n (pg_name (i := 4) sc__law_by_hand_right.nd rfl (by first | exact Or.inl rfl | exact Or.inr rfl)))) (fun _ _ _ _ _ => sts_nil) (fun _ _ _ _ _ => (se_eq hK hu (se_w 5) (se_w 4))) (by decide) (by intro _; rfl))) (by decide) (by intro _; rfl))) rfl (by first | exact Or.inl rfl | exact Or.inr rfl))
      (ss_cons (ss_ret (se_call D.d0 (takes_of rfl rfl rfl rfl) (hr.mono (Nat.le_succ _)) rfl (sa_cons (se_w 1) (sa_cons (se_w 3) sa_nil rfl) rfl) (by decide) rfl rfl rfl))
      ss_nil)))))))
theorem ok_law (F : Fun K "law" "law" s_law f fd) (hK : K = G.K) (hP : P = G.prog) (hW : w = G.wo) (hX : GX G NM TX) (D : Ds P w K mg base G cl T d) (m_abs : mg "abs" = none) (m_int : mg "int" = none) (m_list : mg "list" = none) (m_range : mg "range" = none) : FnE P w K mg base (2 * d + 3 + 1) f fd ["script"] G cl (runB 7 (F_law T)) :=
  ok_E F sc_law fun cdv A outer s H E hr => by
    have hu := hr.units
    exact (ss_cons (ss_if (st_not (st_tru hK (se_call0 D.d4 (takes_of rfl rfl rfl rfl) (hr.mono (Nat.le_succ _)) rfl (by decide)) (by intro _; rfl))) (ss_cons (ss_ret se_bl)
      ss_nil) ss_nil)
      (ss_cons (ss_un (ss_for (passes_of rfl) rfl (si_v3 hK (se_add hK (se_lst3 hK rfl m_list rfl (sa_cons (se_sl hK (se_w 0) so_none (so_some se_int)) sa_nil rfl) rfl rfl) (se_lst (sa_cons se_int (sa_cons se_int (sa_cons se_int sa_nil rfl) rfl) rfl)))) (sg_n (pg_name (i := 1) sc_law.nd rfl (by first | exact Or.inl rfl | exact Or.inr rfl))) (ss_fr (ss_cons (ss_set (i := 2) sc_law.nd rfl (by first | exact Or.inl rfl | exact Or.inr rfl) (se_mod (se_intOf m_int rfl (sa_cons (se_abs m_abs rfl (sa_cons (se_w 1) sa_nil rfl) rfl rfl) sa_nil rfl) rfl rfl) se_int) rfl (by first | exact Or.inl rfl | exact Or.inr rfl))
      (ss_cons (ss_asg (se_tup (sa_cons (se_add hK (se_w 2) se_int) (sa_cons (se_tup (sa_cons (se_w 2) (sa_cons (se_add hK (se_w 2) se_int) sa_nil rfl) rfl)) sa_nil rfl) rfl)) (sg_tl hK (n := 2) rfl (sgs_cons (sg_n (pg_name (i := 3) sc_law.nd rfl (by first | exact Or.inl rfl | exact Or.inr rfl))) (sgs_cons (sg_n (pg_name (i := 4) sc_law.nd rfl (by first | exact Or.inl rfl | exact Or.inr rfl))) sgs_nil rfl) rfl) rfl rfl) (by rfl) (by rfl) (by rfl))
      (ss_cons (ss_compL (i := 5) (own := [("way_so", 6)]) hW rfl sc_law.nd rfl rfl rfl rfl (by decide +kernel) ⟨_, _, rfl, rfl, rfl⟩ (takesH_of (takes_of rfl rfl rfl rfl) rfl) (si_r1 rfl m_range (sa_cons se_int sa_nil rfl) rfl) (blkOk_by (own := [("way_so", 6)]) (show blkC ["script", "cell", "place_so", "line_so", "lot", "told", "way_so"] (defScope s_law) _ _ = true by decide +kernel)) (fun _ => trivial) (fun Wk1 _ _ _ _ _ tk1 th1 st1 lk1 => (sg_n (pg_name (i := 6) sc_law.nd rfl (by first | exact Or.inl rfl | exact Or.inr rfl)))) (fun Wk1 _ _ _ _ _ tk1 th1 st1 lk1 => sts_nil) (fun Wk1 _ _ _ _ _ tk1 th1 st1 lk1 => (sb_l rfl (se_call D.d1 tk1 (hr.mono (Nat.le_succ _)) rfl (sa_cons (se_w 6) (sa_cons (se_if (st_eq hK hu (se_mod (se_w 6) se_int) se_int) (se_w 2) (se_if (st_eq hK hu (se_mod (se_w 6) se_int) se_int) (se_w 3) (se_w 4))) sa_nil rfl) rfl) (by decide) rfl rfl rfl))) (by decide) (by decide) (by intro _; rfl))
      (ss_cons (ss_if (st_not (st_tru hK (se_call D.d0 (takes_of rfl rfl rfl rfl) (hr.mono (Nat.le_succ _)) rfl (sa_cons (se_w 5) (sa_cons (se_mul hK (se_lst (sa_cons (se_lst (sa_cons se_str (sa_cons (se_w 2) sa_nil rfl) rfl)) (sa_cons (se_lst (sa_cons se_str (sa_cons (se_w 3) sa_nil rfl) rfl)) (sa_cons (se_lst (sa_cons se_str (sa_cons (se_w 4) sa_nil rfl) rfl)) (sa_cons (se_lst (sa_cons se_str (sa_cons (se_w 4) sa_nil rfl) rfl)) sa_nil rfl) rfl) rfl) rfl)) se_int) sa_nil rfl) rfl) (by decide) rfl rfl rfl) (by intro _; rfl))) (ss_cons (ss_ret se_bl)
      ss_nil) ss_nil)
      ss_nil))))) (by intro _; rfl)))
      (ss_cons (ss_ret se_bl)
      ss_nil)))
end
end L00
namespace L00
open PySem PySem.Spec PyProof.Rows L2 EV
section
variable {P : Program} {w : World} {K : PySem.W.Frag} {mg : Str → Option Value} {cs ls : List (Addr × Addr)} {Cs : List Addr}
theorem all_ds {base : Heap} (TB : ∀ p ∈ cs ++ ls, GxR.TabB base mg p.1 p.2) (A0 : At K mg "_law_same" s__law_same ["got", "goal"])
    (A1 : At K mg "_law_caught" s__law_caught ["way_so", "worth"])
    (A2 : At K mg "_law_plain" s__law_plain ["error"])
    (A3 : At K mg "_law_kinds" s__law_kinds ["error"])
    (A4 : At K mg "_law_by_hand_right" s__law_by_hand_right [])
    (A5 : At K mg "law" s_law ["script"])
    (i_NoPlace : ∀ base : Heap, ExI P w K mg base (clOf Cs) "NoPlace" "place" 0)
    (ik_NoPlace : ∀ base : Heap, ExIK P w K mg base (clOf Cs) "NoPlace" "place" "place" 0)
    (v_NoPlace : ExV K (clOf Cs) 0)
    (f_NoPlace_place : ∀ D, (clOf Cs) 0 = some (.ref D) → PySem.W.findIn K (.ref D) "place" = some none)
    (n_NoPlace : ExN K mg (clOf Cs) "NoPlace" 0)
    (i_BadLine : ∀ base : Heap, ExI P w K mg base (clOf Cs) "BadLine" "line" 1)
    (ik_BadLine : ∀ base : Heap, ExIK P w K mg base (clOf Cs) "BadLine" "line" "line" 1)
    (v_BadLine : ExV K (clOf Cs) 1)
    (f_BadLine_line : ∀ D, (clOf Cs) 1 = some (.ref D) → PySem.W.findIn K (.ref D) "line" = some none)
    (n_BadLine : ExN K mg (clOf Cs) "BadLine" 1)
    (e_CanNot : ExE K mg (clOf Cs) "CanNot" 2)
    (e_TooMuch : ExE K mg (clOf Cs) "TooMuch" 3)
    (e_Unfit : ExE K mg (clOf Cs) "Unfit" 4)
    (t_Ring : ∀ base : Heap, ExT P w K mg base (clOf Cs) "Ring" "names" 5)
    (tk_Ring : ∀ base : Heap, ExTK P w K mg base (clOf Cs) "Ring" "names" "names" 5)
    (v_Ring : ExV K (clOf Cs) 5)
    (f_Ring_names : ∀ D, (clOf Cs) 5 = some (.ref D) → PySem.W.findIn K (.ref D) "names" = some none)
    (n_Ring : ExN K mg (clOf Cs) "Ring" 5)
    (t_Endless : ∀ base : Heap, ExT P w K mg base (clOf Cs) "Endless" "names" 6)
    (tk_Endless : ∀ base : Heap, ExTK P w K mg base (clOf Cs) "Endless" "names" "names" 6)
    (v_Endless : ExV K (clOf Cs) 6)
    (f_Endless_names : ∀ D, (clOf Cs) 6 = some (.ref D) → PySem.W.findIn K (.ref D) "names" = some none)
    (n_Endless : ExN K mg (clOf Cs) "Endless" 6)
    (is_BadLine : ∃ D, mg "BadLine" = some (.ref D) ∧ IsT K (ccOf Cs) (.ref D) [(0, false), (1, true), (2, false), (3, false), (4, false), (5, false), (6, false)])
    (is_CanNot : ∃ D, mg "CanNot" = some (.ref D) ∧ IsT K (ccOf Cs) (.ref D) [(0, false), (1, false), (2, true), (3, false), (4, false), (5, false), (6, false)])
    (is_Endless : ∃ D, mg "Endless" = some (.ref D) ∧ IsT K (ccOf Cs) (.ref D) [(0, false), (1, false), (2, false), (3, false), (4, false), (5, false), (6, true)])
    (is_IndexError : IsT K (ccOf Cs) (.type "IndexError") [(0, false), (1, false), (2, false), (3, false), (4, false), (5, false), (6, false)])
    (is_KeyError : IsT K (ccOf Cs) (.type "KeyError") [(0, false), (1, false), (2, false), (3, false), (4, false), (5, false), (6, false)])
    (is_LookupError : IsT K (ccOf Cs) (.type "LookupError") [(0, true), (1, false), (2, false), (3, false), (4, false), (5, false), (6, false)])
    (is_NoPlace : ∃ D, mg "NoPlace" = some (.ref D) ∧ IsT K (ccOf Cs) (.ref D) [(0, true), (1, false), (2, false), (3, false), (4, false), (5, false), (6, false)])
    (is_Ring : ∃ D, mg "Ring" = some (.ref D) ∧ IsT K (ccOf Cs) (.ref D) [(0, false), (1, false), (2, false), (3, false), (4, false), (5, true), (6, false)])
    (is_TooMuch : ∃ D, mg "TooMuch" = some (.ref D) ∧ IsT K (ccOf Cs) (.ref D) [(0, false), (1, false), (2, false), (3, true), (4, false), (5, false), (6, false)])
    (is_Unfit : ∃ D, mg "Unfit" = some (.ref D) ∧ IsT K (ccOf Cs) (.ref D) [(0, false), (1, false), (2, false), (3, false), (4, true), (5, false), (6, false)])
    (is_ValueError : IsT K (ccOf Cs) (.type "ValueError") [(0, false), (1, true), (2, true), (3, true), (4, true), (5, true), (6, true)])
    (m_IndexError : mg "IndexError" = none)
    (m_KeyError : mg "KeyError" = none)
    (m_LookupError : mg "LookupError" = none)
    (m_ValueError : mg "ValueError" = none)
    (m_abs : mg "abs" = none)
    (m_all : mg "all" = none)
    (m_bool : mg "bool" = none)
    (m_int : mg "int" = none)
    (m_isinstance : mg "isinstance" = none)
    (m_len : mg "len" = none)
    (m_list : mg "list" = none)
    (m_range : mg "range" = none)
    (m_str : mg "str" = none)
    (m_tuple : mg "tuple" = none)
    (m_zip : mg "zip" = none) : ∀ d, Ds P w K mg base (gcOf K (assoc []) cs ls P w (nmOf NM) (assoc TX) (ccOf Cs)) (clOf Cs) (callE d) d
  | 0 => {
      d0 := A0.dfe fun f fd F => no_ok,
      d1 := A1.dfe fun f fd F => no_ok,
      d2 := A2.dfe fun f fd F => no_ok,
      d3 := A3.dfe fun f fd F => no_ok,
      d4 := A4.dfe fun f fd F => no_ok,
      d5 := A5.dfe fun f fd F => no_ok,
      i_NoPlace := i_NoPlace base,
      ik_NoPlace := ik_NoPlace base,
      v_NoPlace := v_NoPlace,
      f_NoPlace_place := f_NoPlace_place,
      n_NoPlace := n_NoPlace,
      i_BadLine := i_BadLine base,
      ik_BadLine := ik_BadLine base,
      v_BadLine := v_BadLine,
      f_BadLine_line := f_BadLine_line,
      n_BadLine := n_BadLine,
      e_CanNot := e_CanNot,
      e_TooMuch := e_TooMuch,
      e_Unfit := e_Unfit,
      t_Ring := t_Ring base,
      tk_Ring := tk_Ring base,
      v_Ring := v_Ring,
      f_Ring_names := f_Ring_names,
      n_Ring := n_Ring,
      t_Endless := t_Endless base,
      tk_Endless := tk_Endless base,
      v_Endless := v_Endless,
      f_Endless_names := f_Endless_names,
      n_Endless := n_Endless,
      is_BadLine := is_BadLine,
      is_CanNot := is_CanNot,
      is_Endless := is_Endless,
      is_IndexError := is_IndexError,
      is_KeyError := is_KeyError,
      is_LookupError := is_LookupError,
      is_NoPlace := is_NoPlace,
      is_Ring := is_Ring,
      is_TooMuch := is_TooMuch,
      is_Unfit := is_Unfit,
      is_ValueError := is_ValueError,
      ec_BadLine := ecc _,
      ec_CanNot := ecc _,
      ec_Endless := ecc _,
      ec_NoPlace := ecc _,
      ec_Ring := ecc _,
      ec_TooMuch := ecc _,
      ec_Unfit := ecc _ }
  | d + 1 =>
    have D := all_ds TB A0 A1 A2 A3 A4 A5 i_NoPlace ik_NoPlace v_NoPlace f_NoPlace_place n_NoPlace i_BadLine ik_BadLine v_BadLine f_BadLine_line n_BadLine e_CanNot e_TooMuch e_Unfit t_Ring tk_Ring v_Ring f_Ring_names n_Ring t_Endless tk_Endless v_Endless f_Endless_names n_Endless is_BadLine is_CanNot is_Endless is_IndexError is_KeyError is_LookupError is_NoPlace is_Ring is_TooMuch is_Unfit is_ValueError m_IndexError m_KeyError m_LookupError m_ValueError m_abs m_all m_bool m_int m_isinstance m_len m_list m_range m_str m_tuple m_zip d
    {
      d0 := A0.dfe fun f fd F => ok__law_same (T := callE d) (d := d) F rfl rfl rfl ⟨rfl, rfl⟩ D m_all m_bool m_int m_isinstance m_len m_list m_str m_tuple m_zip,
      d1 := A1.dfe fun f fd F => ok__law_caught (T := callE d) (d := d) F rfl rfl rfl ⟨rfl, rfl⟩ D,
      d2 := A2.dfe fun f fd F => ok__law_plain (T := callE d) (d := d) F rfl rfl rfl ⟨rfl, rfl⟩ D m_IndexError m_KeyError m_LookupError m_ValueError m_isinstance,
      d3 := A3.dfe fun f fd F => ok__law_kinds (T := callE d) (d := d) F rfl rfl rfl ⟨rfl, rfl⟩ D m_isinstance,
      d4 := A4.dfe fun f fd F => ok__law_by_hand_right (T := callE d) (d := d) F rfl rfl rfl ⟨rfl, rfl⟩ D m_range,
      d5 := A5.dfe fun f fd F => ok_law (T := callE d) (d := d) F rfl rfl rfl ⟨rfl, rfl⟩ D m_abs m_int m_list m_range,
      i_NoPlace := i_NoPlace base,
      ik_NoPlace := ik_NoPlace base,
      v_NoPlace := v_NoPlace,
      f_NoPlace_place := f_NoPlace_place,
      n_NoPlace := n_NoPlace,
      i_BadLine := i_BadLine base,
      ik_BadLine := ik_BadLine base,
      v_BadLine := v_BadLine,
      f_BadLine_line := f_BadLine_line,
      n_BadLine := n_BadLine,
      e_CanNot := e_CanNot,
      e_TooMuch := e_TooMuch,
      e_Unfit := e_Unfit,
      t_Ring := t_Ring base,
      tk_Ring := tk_Ring base,
      v_Ring := v_Ring,
      f_Ring_names := f_Ring_names,
      n_Ring := n_Ring,
      t_Endless := t_Endless base,
      tk_Endless := tk_Endless base,
      v_Endless := v_Endless,
      f_Endless_names := f_Endless_names,
      n_Endless := n_Endless,
      is_BadLine := is_BadLine,
      is_CanNot := is_CanNot,
      is_Endless := is_Endless,
      is_IndexError := is_IndexError,
      is_KeyError := is_KeyError,
      is_LookupError := is_LookupError,
      is_NoPlace := is_NoPlace,
      is_Ring := is_Ring,
      is_TooMuch := is_TooMuch,
      is_Unfit := is_Unfit,
      is_ValueError := is_ValueError,
      ec_BadLine := ecc _,
      ec_CanNot := ecc _,
      ec_Endless := ecc _,
      ec_NoPlace := ecc _,
      ec_Ring := ecc _,
      ec_TooMuch := ecc _,
      ec_Unfit := ecc _ }
theorem law_at {fa : Addr} (hfa : mg "law" = some (.ref fa)) (A0 : At K mg "_law_same" s__law_same ["got", "goal"])
    (A1 : At K mg "_law_caught" s__law_caught ["way_so", "worth"])
    (A2 : At K mg "_law_plain" s__law_plain ["error"])
    (A3 : At K mg "_law_kinds" s__law_kinds ["error"])
    (A4 : At K mg "_law_by_hand_right" s__law_by_hand_right [])
    (A5 : At K mg "law" s_law ["script"])
    (i_NoPlace : ∀ base : Heap, ExI P w K mg base (clOf Cs) "NoPlace" "place" 0)
    (ik_NoPlace : ∀ base : Heap, ExIK P w K mg base (clOf Cs) "NoPlace" "place" "place" 0)
    (v_NoPlace : ExV K (clOf Cs) 0)
    (f_NoPlace_place : ∀ D, (clOf Cs) 0 = some (.ref D) → PySem.W.findIn K (.ref D) "place" = some none)
    (n_NoPlace : ExN K mg (clOf Cs) "NoPlace" 0)
    (i_BadLine : ∀ base : Heap, ExI P w K mg base (clOf Cs) "BadLine" "line" 1)
    (ik_BadLine : ∀ base : Heap, ExIK P w K mg base (clOf Cs) "BadLine" "line" "line" 1)
    (v_BadLine : ExV K (clOf Cs) 1)
    (f_BadLine_line : ∀ D, (clOf Cs) 1 = some (.ref D) → PySem.W.findIn K (.ref D) "line" = some none)
    (n_BadLine : ExN K mg (clOf Cs) "BadLine" 1)
    (e_CanNot : ExE K mg (clOf Cs) "CanNot" 2)
    (e_TooMuch : ExE K mg (clOf Cs) "TooMuch" 3)
    (e_Unfit : ExE K mg (clOf Cs) "Unfit" 4)
    (t_Ring : ∀ base : Heap, ExT P w K mg base (clOf Cs) "Ring" "names" 5)
    (tk_Ring : ∀ base : Heap, ExTK P w K mg base (clOf Cs) "Ring" "names" "names" 5)
    (v_Ring : ExV K (clOf Cs) 5)
    (f_Ring_names : ∀ D, (clOf Cs) 5 = some (.ref D) → PySem.W.findIn K (.ref D) "names" = some none)
    (n_Ring : ExN K mg (clOf Cs) "Ring" 5)
    (t_Endless : ∀ base : Heap, ExT P w K mg base (clOf Cs) "Endless" "names" 6)
    (tk_Endless : ∀ base : Heap, ExTK P w K mg base (clOf Cs) "Endless" "names" "names" 6)
    (v_Endless : ExV K (clOf Cs) 6)
    (f_Endless_names : ∀ D, (clOf Cs) 6 = some (.ref D) → PySem.W.findIn K (.ref D) "names" = some none)
    (n_Endless : ExN K mg (clOf Cs) "Endless" 6)
    (is_BadLine : ∃ D, mg "BadLine" = some (.ref D) ∧ IsT K (ccOf Cs) (.ref D) [(0, false), (1, true), (2, false), (3, false), (4, false), (5, false), (6, false)])
    (is_CanNot : ∃ D, mg "CanNot" = some (.ref D) ∧ IsT K (ccOf Cs) (.ref D) [(0, false), (1, false), (2, true), (3, false), (4, false), (5, false), (6, false)])
    (is_Endless : ∃ D, mg "Endless" = some (.ref D) ∧ IsT K (ccOf Cs) (.ref D) [(0, false), (1, false), (2, false), (3, false), (4, false), (5, false), (6, true)])
    (is_IndexError : IsT K (ccOf Cs) (.type "IndexError") [(0, false), (1, false), (2, false), (3, false), (4, false), (5, false), (6, false)])
    (is_KeyError : IsT K (ccOf Cs) (.type "KeyError") [(0, false), (1, false), (2, false), (3, false), (4, false), (5, false), (6, false)])
    (is_LookupError : IsT K (ccOf Cs) (.type "LookupError") [(0, true), (1, false), (2, false), (3, false), (4, false), (5, false), (6, false)])
    (is_NoPlace : ∃ D, mg "NoPlace" = some (.ref D) ∧ IsT K (ccOf Cs) (.ref D) [(0, true), (1, false), (2, false), (3, false), (4, false), (5, false), (6, false)])
    (is_Ring : ∃ D, mg "Ring" = some (.ref D) ∧ IsT K (ccOf Cs) (.ref D) [(0, false), (1, false), (2, false), (3, false), (4, false), (5, true), (6, false)])
    (is_TooMuch : ∃ D, mg "TooMuch" = some (.ref D) ∧ IsT K (ccOf Cs) (.ref D) [(0, false), (1, false), (2, false), (3, true), (4, false), (5, false), (6, false)])
    (is_Unfit : ∃ D, mg "Unfit" = some (.ref D) ∧ IsT K (ccOf Cs) (.ref D) [(0, false), (1, false), (2, false), (3, false), (4, true), (5, false), (6, false)])
    (is_ValueError : IsT K (ccOf Cs) (.type "ValueError") [(0, false), (1, true), (2, true), (3, true), (4, true), (5, true), (6, true)])
    (m_IndexError : mg "IndexError" = none)
    (m_KeyError : mg "KeyError" = none)
    (m_LookupError : mg "LookupError" = none)
    (m_ValueError : mg "ValueError" = none)
    (m_abs : mg "abs" = none)
    (m_all : mg "all" = none)
    (m_bool : mg "bool" = none)
    (m_int : mg "int" = none)
    (m_isinstance : mg "isinstance" = none)
    (m_len : mg "len" = none)
    (m_list : mg "list" = none)
    (m_range : mg "range" = none)
    (m_str : mg "str" = none)
    (m_tuple : mg "tuple" = none)
    (m_zip : mg "zip" = none) : LawE P w K mg "script" (assoc []) cs ls (nmOf NM) (assoc TX) (ccOf Cs) (clOf Cs) (runB 7 (F_law (callE 113))) fa :=
  A5.law hfa fun base kb nb TB f fd F => ok_law (T := callE 113) (d := 113) F rfl rfl rfl ⟨rfl, rfl⟩ (all_ds TB A0 A1 A2 A3 A4 A5 i_NoPlace ik_NoPlace v_NoPlace f_NoPlace_place n_NoPlace i_BadLine ik_BadLine v_BadLine f_BadLine_line n_BadLine e_CanNot e_TooMuch e_Unfit t_Ring tk_Ring v_Ring f_Ring_names n_Ring t_Endless tk_Endless v_Endless f_Endless_names n_Endless is_BadLine is_CanNot is_Endless is_IndexError is_KeyError is_LookupError is_NoPlace is_Ring is_TooMuch is_Unfit is_ValueError m_IndexError m_KeyError m_LookupError m_ValueError m_abs m_all m_bool m_int m_isinstance m_len m_list m_range m_str m_tuple m_zip 113) m_abs m_int m_list m_range
end
structure CF (P : Program) (w : World) (K : PySem.W.Frag) (mg : Str → Option Value) (Cs : List Addr) : Prop where
  at_ : AtCs K ["NoPlace", "BadLine", "CanNot", "TooMuch", "Unfit", "Ring", "Endless"] Cs
  i_NoPlace : ∀ base : Heap, ExI P w K mg base (clOf Cs) "NoPlace" "place" 0
  ik_NoPlace : ∀ base : Heap, ExIK P w K mg base (clOf Cs) "NoPlace" "place" "place" 0
  v_NoPlace : ExV K (clOf Cs) 0
  f_NoPlace_place : ∀ D, (clOf Cs) 0 = some (.ref D) → PySem.W.findIn K (.ref D) "place" = some none
  n_NoPlace : ExN K mg (clOf Cs) "NoPlace" 0
  i_BadLine : ∀ base : Heap, ExI P w K mg base (clOf Cs) "BadLine" "line" 1
  ik_BadLine : ∀ base : Heap, ExIK P w K mg base (clOf Cs) "BadLine" "line" "line" 1
  v_BadLine : ExV K (clOf Cs) 1
  f_BadLine_line : ∀ D, (clOf Cs) 1 = some (.ref D) → PySem.W.findIn K (.ref D) "line" = some none
  n_BadLine : ExN K mg (clOf Cs) "BadLine" 1
  e_CanNot : ExE K mg (clOf Cs) "CanNot" 2
  e_TooMuch : ExE K mg (clOf Cs) "TooMuch" 3
  e_Unfit : ExE K mg (clOf Cs) "Unfit" 4
  t_Ring : ∀ base : Heap, ExT P w K mg base (clOf Cs) "Ring" "names" 5
  tk_Ring : ∀ base : Heap, ExTK P w K mg base (clOf Cs) "Ring" "names" "names" 5
  v_Ring : ExV K (clOf Cs) 5
  f_Ring_names : ∀ D, (clOf Cs) 5 = some (.ref D) → PySem.W.findIn K (.ref D) "names" = some none
  n_Ring : ExN K mg (clOf Cs) "Ring" 5
  t_Endless : ∀ base : Heap, ExT P w K mg base (clOf Cs) "Endless" "names" 6
  tk_Endless : ∀ base : Heap, ExTK P w K mg base (clOf Cs) "Endless" "names" "names" 6
  v_Endless : ExV K (clOf Cs) 6
  f_Endless_names : ∀ D, (clOf Cs) 6 = some (.ref D) → PySem.W.findIn K (.ref D) "names" = some none
  n_Endless : ExN K mg (clOf Cs) "Endless" 6
  is_BadLine : ∃ D, mg "BadLine" = some (.ref D) ∧ IsT K (ccOf Cs) (.ref D) [(0, false), (1, true), (2, false), (3, false), (4, false), (5, false), (6, false)]
  is_CanNot : ∃ D, mg "CanNot" = some (.ref D) ∧ IsT K (ccOf Cs) (.ref D) [(0, false), (1, false), (2, true), (3, false), (4, false), (5, false), (6, false)]
  is_Endless : ∃ D, mg "Endless" = some (.ref D) ∧ IsT K (ccOf Cs) (.ref D) [(0, false), (1, false), (2, false), (3, false), (4, false), (5, false), (6, true)]
  is_IndexError : IsT K (ccOf Cs) (.type "IndexError") [(0, false), (1, false), (2, false), (3, false), (4, false), (5, false), (6, false)]
  is_KeyError : IsT K (ccOf Cs) (.type "KeyError") [(0, false), (1, false), (2, false), (3, false), (4, false), (5, false), (6, false)]
  is_LookupError : IsT K (ccOf Cs) (.type "LookupError") [(0, true), (1, false), (2, false), (3, false), (4, false), (5, false), (6, false)]
  is_NoPlace : ∃ D, mg "NoPlace" = some (.ref D) ∧ IsT K (ccOf Cs) (.ref D) [(0, true), (1, false), (2, false), (3, false), (4, false), (5, false), (6, false)]
  is_Ring : ∃ D, mg "Ring" = some (.ref D) ∧ IsT K (ccOf Cs) (.ref D) [(0, false), (1, false), (2, false), (3, false), (4, false), (5, true), (6, false)]
  is_TooMuch : ∃ D, mg "TooMuch" = some (.ref D) ∧ IsT K (ccOf Cs) (.ref D) [(0, false), (1, false), (2, false), (3, true), (4, false), (5, false), (6, false)]
  is_Unfit : ∃ D, mg "Unfit" = some (.ref D) ∧ IsT K (ccOf Cs) (.ref D) [(0, false), (1, false), (2, false), (3, false), (4, true), (5, false), (6, false)]
  is_ValueError : IsT K (ccOf Cs) (.type "ValueError") [(0, false), (1, true), (2, true), (3, true), (4, true), (5, true), (6, true)]
theorem own_NoPlace {P : Program} {w : World} {K : PySem.W.Frag} {mg : Str → Option Value} {h : Heap} {Cs : List Addr} {C fI : Addr} {oc kV doc pm cdv ct : Value} {od an : Option Addr} {osl : Array (Option Value)} (X : K.In h) (N : h.Ns mainGlobals mg) (hC : Cs[0]? = some C) (a : PySem.W.nsIn K mainGlobals "NoPlace" = some (some (.ref C)))
    (T : OwnE K C "LookupError.__new__" [.type "LookupError", .type "Exception", .type "BaseException", .type "object"]) (i : PySem.W.findIn K (.ref C) "__init__" = some (some (.ref fI))) (ty : PySem.W.typeIn K (.ref fI) = some (.type "function"))
    (l : K.lookup fI = some ⟨oc, od, .func (PySem.W.fnOf "__init__" "NoPlace.__init__" (defArgs (inClass (top 1) 0)) (defBody (inClass (top 1) 0)) (defScope (inClass (top 1) 0)) .none kV doc pm an cdv ct), osl⟩) (hc : PySem.W.codeIn K cdv "NoPlace.__init__" = true) (kp : PySem.W.keepIn K (.ref fI) = true) (hno : PySem.W.findIn K (.ref C) "place" = some none)
    (vV : PySem.W.findCls K (.type "LookupError") (.type "type") "__init__" = some (.val (.builtin "LookupError.__init__"))) (mB : mg "LookupError" = none) : ∀ base : Heap, ExI P w K mg base (clOf Cs) "NoPlace" "place" 0 :=
  fun base => exI_mk X N hC base_LE a T i ty (ok_I (p := "place") (fun_mk l hc kp) ⟨rfl, rfl, rfl, by decide +kernel, rfl, by decide +kernel, by decide +kernel⟩ T hno (jsOk2 (by decide)) fun cdv A outer s H E =>
    pss_cons (ps_expr (pe_binit base_LE rfl mB rfl (by decide) rfl rfl rfl vV (pa_cons (pe_var (i := 0) rfl (by first | exact Or.inl rfl | exact Or.inr (Or.inl rfl) | exact Or.inr (Or.inr rfl)) (by decide) (by decide)) (pa_cons (pe_joined (PJ.cons pe_str (PJ.cons (pe_fmt (pe_var (i := 1) rfl (by first | exact Or.inl rfl | exact Or.inr (Or.inl rfl) | exact Or.inr (Or.inr rfl)) (by decide) (by decide))) PJ.nil))) pa_nil)) rfl rfl rfl)) (pss_cons (ps_os1 base_LE (pe_var (i := 0) rfl (by first | exact Or.inl rfl | exact Or.inr (Or.inl rfl) | exact Or.inr (Or.inr rfl)) (by decide) (by decide)) (pe_var (i := 1) rfl (by first | exact Or.inl rfl | exact Or.inr (Or.inl rfl) | exact Or.inr (Or.inr rfl)) (by decide) (by decide)) rfl) pss_nil))
    (fun us hl => match us, hl with | [_, _], _ => rfl)
theorem ownIK_NoPlace {P : Program} {w : World} {K : PySem.W.Frag} {mg : Str → Option Value} {h : Heap} {Cs : List Addr} {C fI : Addr} {oc kV doc pm cdv ct : Value} {od an : Option Addr} {osl : Array (Option Value)} (X : K.In h) (N : h.Ns mainGlobals mg) (hC : Cs[0]? = some C) (a : PySem.W.nsIn K mainGlobals "NoPlace" = some (some (.ref C)))
    (T : OwnE K C "LookupError.__new__" [.type "LookupError", .type "Exception", .type "BaseException", .type "object"]) (i : PySem.W.findIn K (.ref C) "__init__" = some (some (.ref fI))) (ty : PySem.W.typeIn K (.ref fI) = some (.type "function"))
    (l : K.lookup fI = some ⟨oc, od, .func (PySem.W.fnOf "__init__" "NoPlace.__init__" (defArgs (inClass (top 1) 0)) (defBody (inClass (top 1) 0)) (defScope (inClass (top 1) 0)) .none kV doc pm an cdv ct), osl⟩) (hc : PySem.W.codeIn K cdv "NoPlace.__init__" = true) (kp : PySem.W.keepIn K (.ref fI) = true) (hno : PySem.W.findIn K (.ref C) "place" = some none)
    (vV : PySem.W.findCls K (.type "LookupError") (.type "type") "__init__" = some (.val (.builtin "LookupError.__init__"))) (mB : mg "LookupError" = none) : ∀ base : Heap, ExIK P w K mg base (clOf Cs) "NoPlace" "place" "place" 0 :=
  fun base => exIK_mk X N hC base_LE a T i ty (ok_I (p := "place") (fun_mk l hc kp) ⟨rfl, rfl, rfl, by decide +kernel, rfl, by decide +kernel, by decide +kernel⟩ T hno (jsOk2 (by decide)) fun cdv A outer s H E =>
    pss_cons (ps_expr (pe_binit base_LE rfl mB rfl (by decide) rfl rfl rfl vV (pa_cons (pe_var (i := 0) rfl (by first | exact Or.inl rfl | exact Or.inr (Or.inl rfl) | exact Or.inr (Or.inr rfl)) (by decide) (by decide)) (pa_cons (pe_joined (PJ.cons pe_str (PJ.cons (pe_fmt (pe_var (i := 1) rfl (by first | exact Or.inl rfl | exact Or.inr (Or.inl rfl) | exact Or.inr (Or.inr rfl)) (by decide) (by decide))) PJ.nil))) pa_nil)) rfl rfl rfl)) (pss_cons (ps_os1 base_LE (pe_var (i := 0) rfl (by first | exact Or.inl rfl | exact Or.inr (Or.inl rfl) | exact Or.inr (Or.inr rfl)) (by decide) (by decide)) (pe_var (i := 1) rfl (by first | exact Or.inl rfl | exact Or.inr (Or.inl rfl) | exact Or.inr (Or.inr rfl)) (by decide) (by decide)) rfl) pss_nil))
    (fun s a u => .of_eq rfl)
theorem own_BadLine {P : Program} {w : World} {K : PySem.W.Frag} {mg : Str → Option Value} {h : Heap} {Cs : List Addr} {C fI : Addr} {oc kV doc pm cdv ct : Value} {od an : Option Addr} {osl : Array (Option Value)} (X : K.In h) (N : h.Ns mainGlobals mg) (hC : Cs[1]? = some C) (a : PySem.W.nsIn K mainGlobals "BadLine" = some (some (.ref C)))
    (T : OwnE K C "ValueError.__new__" [.type "ValueError", .type "Exception", .type "BaseException", .type "object"]) (i : PySem.W.findIn K (.ref C) "__init__" = some (some (.ref fI))) (ty : PySem.W.typeIn K (.ref fI) = some (.type "function"))
    (l : K.lookup fI = some ⟨oc, od, .func (PySem.W.fnOf "__init__" "BadLine.__init__" (defArgs (inClass (top 2) 0)) (defBody (inClass (top 2) 0)) (defScope (inClass (top 2) 0)) .none kV doc pm an cdv ct), osl⟩) (hc : PySem.W.codeIn K cdv "BadLine.__init__" = true) (kp : PySem.W.keepIn K (.ref fI) = true) (hno : PySem.W.findIn K (.ref C) "line" = some none)
    (vV : PySem.W.findCls K (.type "ValueError") (.type "type") "__init__" = some (.val (.builtin "ValueError.__init__"))) (mB : mg "ValueError" = none) : ∀ base : Heap, ExI P w K mg base (clOf Cs) "BadLine" "line" 1 :=
  fun base => exI_mk X N hC base_VE a T i ty (ok_I (p := "line") (fun_mk l hc kp) ⟨rfl, rfl, rfl, by decide +kernel, rfl, by decide +kernel, by decide +kernel⟩ T hno (jsOk3 (by decide) (by decide)) fun cdv A outer s H E =>
    pss_cons (ps_expr (pe_binit base_VE rfl mB rfl (by decide) rfl rfl rfl vV (pa_cons (pe_var (i := 0) rfl (by first | exact Or.inl rfl | exact Or.inr (Or.inl rfl) | exact Or.inr (Or.inr rfl)) (by decide) (by decide)) (pa_cons (pe_joined (PJ.cons pe_str (PJ.cons (pe_fmt (pe_var (i := 1) rfl (by first | exact Or.inl rfl | exact Or.inr (Or.inl rfl) | exact Or.inr (Or.inr rfl)) (by decide) (by decide))) (PJ.cons pe_str PJ.nil)))) pa_nil)) rfl rfl rfl)) (pss_cons (ps_os1 base_VE (pe_var (i := 0) rfl (by first | exact Or.inl rfl | exact Or.inr (Or.inl rfl) | exact Or.inr (Or.inr rfl)) (by decide) (by decide)) (pe_var (i := 1) rfl (by first | exact Or.inl rfl | exact Or.inr (Or.inl rfl) | exact Or.inr (Or.inr rfl)) (by decide) (by decide)) rfl) pss_nil))
    (fun us hl => match us, hl with | [_, _], _ => rfl)
theorem ownIK_BadLine {P : Program} {w : World} {K : PySem.W.Frag} {mg : Str → Option Value} {h : Heap} {Cs : List Addr} {C fI : Addr} {oc kV doc pm cdv ct : Value} {od an : Option Addr} {osl : Array (Option Value)} (X : K.In h) (N : h.Ns mainGlobals mg) (hC : Cs[1]? = some C) (a : PySem.W.nsIn K mainGlobals "BadLine" = some (some (.ref C)))
    (T : OwnE K C "ValueError.__new__" [.type "ValueError", .type "Exception", .type "BaseException", .type "object"]) (i : PySem.W.findIn K (.ref C) "__init__" = some (some (.ref fI))) (ty : PySem.W.typeIn K (.ref fI) = some (.type "function"))
    (l : K.lookup fI = some ⟨oc, od, .func (PySem.W.fnOf "__init__" "BadLine.__init__" (defArgs (inClass (top 2) 0)) (defBody (inClass (top 2) 0)) (defScope (inClass (top 2) 0)) .none kV doc pm an cdv ct), osl⟩) (hc : PySem.W.codeIn K cdv "BadLine.__init__" = true) (kp : PySem.W.keepIn K (.ref fI) = true) (hno : PySem.W.findIn K (.ref C) "line" = some none)
    (vV : PySem.W.findCls K (.type "ValueError") (.type "type") "__init__" = some (.val (.builtin "ValueError.__init__"))) (mB : mg "ValueError" = none) : ∀ base : Heap, ExIK P w K mg base (clOf Cs) "BadLine" "line" "line" 1 :=
  fun base => exIK_mk X N hC base_VE a T i ty (ok_I (p := "line") (fun_mk l hc kp) ⟨rfl, rfl, rfl, by decide +kernel, rfl, by decide +kernel, by decide +kernel⟩ T hno (jsOk3 (by decide) (by decide)) fun cdv A outer s H E =>
    pss_cons (ps_expr (pe_binit base_VE rfl mB rfl (by decide) rfl rfl rfl vV (pa_cons (pe_var (i := 0) rfl (by first | exact Or.inl rfl | exact Or.inr (Or.inl rfl) | exact Or.inr (Or.inr rfl)) (by decide) (by decide)) (pa_cons (pe_joined (PJ.cons pe_str (PJ.cons (pe_fmt (pe_var (i := 1) rfl (by first | exact Or.inl rfl | exact Or.inr (Or.inl rfl) | exact Or.inr (Or.inr rfl)) (by decide) (by decide))) (PJ.cons pe_str PJ.nil)))) pa_nil)) rfl rfl rfl)) (pss_cons (ps_os1 base_VE (pe_var (i := 0) rfl (by first | exact Or.inl rfl | exact Or.inr (Or.inl rfl) | exact Or.inr (Or.inr rfl)) (by decide) (by decide)) (pe_var (i := 1) rfl (by first | exact Or.inl rfl | exact Or.inr (Or.inl rfl) | exact Or.inr (Or.inr rfl)) (by decide) (by decide)) rfl) pss_nil))
    (fun s a u => .of_eq rfl)
theorem ownT_Ring {P : Program} {w : World} {K : PySem.W.Frag} {mg : Str → Option Value} {h : Heap} {Cs : List Addr} {C fI : Addr} {oc kV doc pm cdv ct : Value} {od an : Option Addr} {osl : Array (Option Value)} (X : K.In h) (N : h.Ns mainGlobals mg) (hC : Cs[5]? = some C) (a : PySem.W.nsIn K mainGlobals "Ring" = some (some (.ref C)))
    (T : OwnE K C "ValueError.__new__" [.type "ValueError", .type "Exception", .type "BaseException", .type "object"]) (i : PySem.W.findIn K (.ref C) "__init__" = some (some (.ref fI))) (ty : PySem.W.typeIn K (.ref fI) = some (.type "function"))
    (l : K.lookup fI = some ⟨oc, od, .func (PySem.W.fnOf "__init__" "Ring.__init__" (defArgs (inClass (top 6) 0)) (defBody (inClass (top 6) 0)) (defScope (inClass (top 6) 0)) .none kV doc pm an cdv ct), osl⟩) (hc : PySem.W.codeIn K cdv "Ring.__init__" = true) (kp : PySem.W.keepIn K (.ref fI) = true) (hno : PySem.W.findIn K (.ref C) "names" = some none)
    (vV : PySem.W.findCls K (.type "ValueError") (.type "type") "__init__" = some (.val (.builtin "ValueError.__init__"))) (mB : mg "ValueError" = none) (V : L2.XfC K C) (mT : mg "tuple" = none) : ∀ base : Heap, ExT P w K mg base (clOf Cs) "Ring" "names" 5 :=
  fun base => exT_mk X N hC base_VE a T i ty (ok_IT (p := "names") (tx := "calls go in a ring without a step: ") (fun_mk l hc kp) ⟨rfl, rfl, rfl, by decide +kernel, rfl, by decide +kernel, by decide +kernel⟩ T V hno (by decide) fun cdv A outer s H E hr =>
    pss_cons (ps_os1 base_VE (pe_var (i := 0) rfl (by first | exact Or.inl rfl | exact Or.inr (Or.inl rfl) | exact Or.inr (Or.inr rfl)) (by decide) (by decide)) (pe_tup1 mT rfl (pe_var (i := 1) rfl (by first | exact Or.inl rfl | exact Or.inr (Or.inl rfl) | exact Or.inr (Or.inr rfl)) (by decide) (by decide)) rfl rfl) rfl) (pss_cons (ps_expr (pe_binit2 base_VE rfl mB rfl (by decide) rfl rfl rfl vV (pa_cons (pe_var (i := 0) rfl (by first | exact Or.inl rfl | exact Or.inr (Or.inl rfl) | exact Or.inr (Or.inr rfl)) (by decide) (by decide)) (pa_cons (pe_joined (PJ.cons pe_str (PJ.cons (pe_fmtN (Nat.lt_of_le_of_lt (Nat.add_le_add_left (show 2 ≤ 64 by decide) _) hr.units) (pe_xo (pe_var (i := 0) rfl (by first | exact Or.inl rfl | exact Or.inr (Or.inl rfl) | exact Or.inr (Or.inr rfl)) (by decide) (by decide)) rfl)) PJ.nil))) pa_nil)) rfl rfl rfl)) pss_nil))
    (fun us hl => match us, hl with | [_, _], _ => rfl)
theorem ownTK_Ring {P : Program} {w : World} {K : PySem.W.Frag} {mg : Str → Option Value} {h : Heap} {Cs : List Addr} {C fI : Addr} {oc kV doc pm cdv ct : Value} {od an : Option Addr} {osl : Array (Option Value)} (X : K.In h) (N : h.Ns mainGlobals mg) (hC : Cs[5]? = some C) (a : PySem.W.nsIn K mainGlobals "Ring" = some (some (.ref C)))
    (T : OwnE K C "ValueError.__new__" [.type "ValueError", .type "Exception", .type "BaseException", .type "object"]) (i : PySem.W.findIn K (.ref C) "__init__" = some (some (.ref fI))) (ty : PySem.W.typeIn K (.ref fI) = some (.type "function"))
    (l : K.lookup fI = some ⟨oc, od, .func (PySem.W.fnOf "__init__" "Ring.__init__" (defArgs (inClass (top 6) 0)) (defBody (inClass (top 6) 0)) (defScope (inClass (top 6) 0)) .none kV doc pm an cdv ct), osl⟩) (hc : PySem.W.codeIn K cdv "Ring.__init__" = true) (kp : PySem.W.keepIn K (.ref fI) = true) (hno : PySem.W.findIn K (.ref C) "names" = some none)
    (vV : PySem.W.findCls K (.type "ValueError") (.type "type") "__init__" = some (.val (.builtin "ValueError.__init__"))) (mB : mg "ValueError" = none) (V : L2.XfC K C) (mT : mg "tuple" = none) : ∀ base : Heap, ExTK P w K mg base (clOf Cs) "Ring" "names" "names" 5 :=
  fun base => exTK_mk X N hC base_VE a T i ty (ok_IT (p := "names") (tx := "calls go in a ring without a step: ") (fun_mk l hc kp) ⟨rfl, rfl, rfl, by decide +kernel, rfl, by decide +kernel, by decide +kernel⟩ T V hno (by decide) fun cdv A outer s H E hr =>
    pss_cons (ps_os1 base_VE (pe_var (i := 0) rfl (by first | exact Or.inl rfl | exact Or.inr (Or.inl rfl) | exact Or.inr (Or.inr rfl)) (by decide) (by decide)) (pe_tup1 mT rfl (pe_var (i := 1) rfl (by first | exact Or.inl rfl | exact Or.inr (Or.inl rfl) | exact Or.inr (Or.inr rfl)) (by decide) (by decide)) rfl rfl) rfl) (pss_cons (ps_expr (pe_binit2 base_VE rfl mB rfl (by decide) rfl rfl rfl vV (pa_cons (pe_var (i := 0) rfl (by first | exact Or.inl rfl | exact Or.inr (Or.inl rfl) | exact Or.inr (Or.inr rfl)) (by decide) (by decide)) (pa_cons (pe_joined (PJ.cons pe_str (PJ.cons (pe_fmtN (Nat.lt_of_le_of_lt (Nat.add_le_add_left (show 2 ≤ 64 by decide) _) hr.units) (pe_xo (pe_var (i := 0) rfl (by first | exact Or.inl rfl | exact Or.inr (Or.inl rfl) | exact Or.inr (Or.inr rfl)) (by decide) (by decide)) rfl)) PJ.nil))) pa_nil)) rfl rfl rfl)) pss_nil))
    (fun s a u => .of_eq rfl)
theorem ownT_Endless {P : Program} {w : World} {K : PySem.W.Frag} {mg : Str → Option Value} {h : Heap} {Cs : List Addr} {C fI : Addr} {oc kV doc pm cdv ct : Value} {od an : Option Addr} {osl : Array (Option Value)} (X : K.In h) (N : h.Ns mainGlobals mg) (hC : Cs[6]? = some C) (a : PySem.W.nsIn K mainGlobals "Endless" = some (some (.ref C)))
    (T : OwnE K C "ValueError.__new__" [.type "ValueError", .type "Exception", .type "BaseException", .type "object"]) (i : PySem.W.findIn K (.ref C) "__init__" = some (some (.ref fI))) (ty : PySem.W.typeIn K (.ref fI) = some (.type "function"))
    (l : K.lookup fI = some ⟨oc, od, .func (PySem.W.fnOf "__init__" "Endless.__init__" (defArgs (inClass (top 7) 0)) (defBody (inClass (top 7) 0)) (defScope (inClass (top 7) 0)) .none kV doc pm an cdv ct), osl⟩) (hc : PySem.W.codeIn K cdv "Endless.__init__" = true) (kp : PySem.W.keepIn K (.ref fI) = true) (hno : PySem.W.findIn K (.ref C) "names" = some none)
    (vV : PySem.W.findCls K (.type "ValueError") (.type "type") "__init__" = some (.val (.builtin "ValueError.__init__"))) (mB : mg "ValueError" = none) (V : L2.XfC K C) (mT : mg "tuple" = none) : ∀ base : Heap, ExT P w K mg base (clOf Cs) "Endless" "names" 6 :=
  fun base => exT_mk X N hC base_VE a T i ty (ok_IT (p := "names") (tx := "names that can not end: ") (fun_mk l hc kp) ⟨rfl, rfl, rfl, by decide +kernel, rfl, by decide +kernel, by decide +kernel⟩ T V hno (by decide) fun cdv A outer s H E hr =>
    pss_cons (ps_os1 base_VE (pe_var (i := 0) rfl (by first | exact Or.inl rfl | exact Or.inr (Or.inl rfl) | exact Or.inr (Or.inr rfl)) (by decide) (by decide)) (pe_tup1 mT rfl (pe_var (i := 1) rfl (by first | exact Or.inl rfl | exact Or.inr (Or.inl rfl) | exact Or.inr (Or.inr rfl)) (by decide) (by decide)) rfl rfl) rfl) (pss_cons (ps_expr (pe_binit2 base_VE rfl mB rfl (by decide) rfl rfl rfl vV (pa_cons (pe_var (i := 0) rfl (by first | exact Or.inl rfl | exact Or.inr (Or.inl rfl) | exact Or.inr (Or.inr rfl)) (by decide) (by decide)) (pa_cons (pe_joined (PJ.cons pe_str (PJ.cons (pe_fmtN (Nat.lt_of_le_of_lt (Nat.add_le_add_left (show 2 ≤ 64 by decide) _) hr.units) (pe_xo (pe_var (i := 0) rfl (by first | exact Or.inl rfl | exact Or.inr (Or.inl rfl) | exact Or.inr (Or.inr rfl)) (by decide) (by decide)) rfl)) PJ.nil))) pa_nil)) rfl rfl rfl)) pss_nil))
    (fun us hl => match us, hl with | [_, _], _ => rfl)
theorem ownTK_Endless {P : Program} {w : World} {K : PySem.W.Frag} {mg : Str → Option Value} {h : Heap} {Cs : List Addr} {C fI : Addr} {oc kV doc pm cdv ct : Value} {od an : Option Addr} {osl : Array (Option Value)} (X : K.In h) (N : h.Ns mainGlobals mg) (hC : Cs[6]? = some C) (a : PySem.W.nsIn K mainGlobals "Endless" = some (some (.ref C)))
    (T : OwnE K C "ValueError.__new__" [.type "ValueError", .type "Exception", .type "BaseException", .type "object"]) (i : PySem.W.findIn K (.ref C) "__init__" = some (some (.ref fI))) (ty : PySem.W.typeIn K (.ref fI) = some (.type "function"))
    (l : K.lookup fI = some ⟨oc, od, .func (PySem.W.fnOf "__init__" "Endless.__init__" (defArgs (inClass (top 7) 0)) (defBody (inClass (top 7) 0)) (defScope (inClass (top 7) 0)) .none kV doc pm an cdv ct), osl⟩) (hc : PySem.W.codeIn K cdv "Endless.__init__" = true) (kp : PySem.W.keepIn K (.ref fI) = true) (hno : PySem.W.findIn K (.ref C) "names" = some none)
    (vV : PySem.W.findCls K (.type "ValueError") (.type "type") "__init__" = some (.val (.builtin "ValueError.__init__"))) (mB : mg "ValueError" = none) (V : L2.XfC K C) (mT : mg "tuple" = none) : ∀ base : Heap, ExTK P w K mg base (clOf Cs) "Endless" "names" "names" 6 :=
  fun base => exTK_mk X N hC base_VE a T i ty (ok_IT (p := "names") (tx := "names that can not end: ") (fun_mk l hc kp) ⟨rfl, rfl, rfl, by decide +kernel, rfl, by decide +kernel, by decide +kernel⟩ T V hno (by decide) fun cdv A outer s H E hr =>
    pss_cons (ps_os1 base_VE (pe_var (i := 0) rfl (by first | exact Or.inl rfl | exact Or.inr (Or.inl rfl) | exact Or.inr (Or.inr rfl)) (by decide) (by decide)) (pe_tup1 mT rfl (pe_var (i := 1) rfl (by first | exact Or.inl rfl | exact Or.inr (Or.inl rfl) | exact Or.inr (Or.inr rfl)) (by decide) (by decide)) rfl rfl) rfl) (pss_cons (ps_expr (pe_binit2 base_VE rfl mB rfl (by decide) rfl rfl rfl vV (pa_cons (pe_var (i := 0) rfl (by first | exact Or.inl rfl | exact Or.inr (Or.inl rfl) | exact Or.inr (Or.inr rfl)) (by decide) (by decide)) (pa_cons (pe_joined (PJ.cons pe_str (PJ.cons (pe_fmtN (Nat.lt_of_le_of_lt (Nat.add_le_add_left (show 2 ≤ 64 by decide) _) hr.units) (pe_xo (pe_var (i := 0) rfl (by first | exact Or.inl rfl | exact Or.inr (Or.inl rfl) | exact Or.inr (Or.inr rfl)) (by decide) (by decide)) rfl)) PJ.nil))) pa_nil)) rfl rfl rfl)) pss_nil))
    (fun s a u => .of_eq rfl)
end L00
namespace L00
open PySem PySem.Spec PyProof.Rows L2 EV
def srcE : FE := (e2 gAdd (eBl bLst3 (aC (eSl (eV 0) oN (oS (eK (.int 8)))) aN)) (eLst (aC (eK (.int 0)) (aC (eK (.int 1)) (aC (eK (.int 999)) aN)))))
def stepP : FS := (sAs (e2 (gI (fun _ j => decide (0 < j)) fun i j => i % j) (eBl bInt (aC (eBl bAbs (aC (eV 1) aN)) aN)) (eK (.int 1000))) (gN 2))
def restP (T : Tab) : FS := (sSeq (sAs (eTup (aC (e2 gAdd (eV 2) (eK (.int 1))) (aC (eTup (aC (eV 2) (aC (e2 gAdd (eV 2) (eK (.int 1))) aN))) aN))) (gTL 2 (gsC (gN 3) (gsC (gN 4) gsN))))
      (sSeq (sAs (eComp (.lst []) (iR1 (aC (eK (.int 8)) aN)) (gN 6) tYs (moreL (eCl 2 (T 1) (aC (eV 6) (aC (eIf (asB (e2 (gEq false) (e2 (gI (fun _ j => decide (0 < j)) fun i j => i % j) (eV 6) (eK (.int 4))) (eK (.int 0)))) (eV 2) (eIf (asB (e2 (gEq false) (e2 (gI (fun _ j => decide (0 < j)) fun i j => i % j) (eV 6) (eK (.int 4))) (eK (.int 1)))) (eV 3) (eV 4))) aN)))) [6]) (gN 5))
      (sSeq (sIf (tNt (asT (eCl 2 (T 0) (aC (eV 5) (aC (e2 gMul (eLst (aC (eLst (aC (eK (.str "place")) (aC (eV 2) aN))) (aC (eLst (aC (eK (.str "line")) (aC (eV 3) aN))) (aC (eLst (aC (eK (.str "ring")) (aC (eV 4) aN))) (aC (eLst (aC (eK (.str "endless")) (aC (eV 4) aN))) aN))))) (eK (.int 2))) aN))))) (sSeq (sRt (eK (.bl false)))
      sNil) sNil)
      sNil)))
def isNx7 (r : RS) : Bool := match r with
  | .nx ρ _ => Nat.beq ρ.length 7
  | _ => false
def okP (b0 b1 b3 b4 b5 b6 : Option W) (p : Nat) : Bool := isNx7 (restP (callE 113) [b0, b1, some (.int (Int.ofNat p)), b3, b4, b5, b6] Hpe.nil)
end L00
namespace L00
open PySem PySem.Spec PyProof.Rows L2 EV
theorem tab0 (b0 b1 b3 b4 b5 b6 : Option W) : ((List.range 50).all fun p => okP b0 b1 b3 b4 b5 b6 (0 + p)) = true := by kernel_rfl
theorem tab1 (b0 b1 b3 b4 b5 b6 : Option W) : ((List.range 50).all fun p => okP b0 b1 b3 b4 b5 b6 (50 + p)) = true := by kernel_rfl
theorem tab2 (b0 b1 b3 b4 b5 b6 : Option W) : ((List.range 50).all fun p => okP b0 b1 b3 b4 b5 b6 (100 + p)) = true := by kernel_rfl
theorem tab3 (b0 b1 b3 b4 b5 b6 : Option W) : ((List.range 50).all fun p => okP b0 b1 b3 b4 b5 b6 (150 + p)) = true := by kernel_rfl
theorem tab4 (b0 b1 b3 b4 b5 b6 : Option W) : ((List.range 50).all fun p => okP b0 b1 b3 b4 b5 b6 (200 + p)) = true := by kernel_rfl
end L00
namespace L00
open PySem PySem.Spec PyProof.Rows L2 EV
theorem tab5 (b0 b1 b3 b4 b5 b6 : Option W) : ((List.range 50).all fun p => okP b0 b1 b3 b4 b5 b6 (250 + p)) = true := by kernel_rfl
theorem tab6 (b0 b1 b3 b4 b5 b6 : Option W) : ((List.range 50).all fun p => okP b0 b1 b3 b4 b5 b6 (300 + p)) = true := by kernel_rfl
theorem tab7 (b0 b1 b3 b4 b5 b6 : Option W) : ((List.range 50).all fun p => okP b0 b1 b3 b4 b5 b6 (350 + p)) = true := by kernel_rfl
theorem tab8 (b0 b1 b3 b4 b5 b6 : Option W) : ((List.range 50).all fun p => okP b0 b1 b3 b4 b5 b6 (400 + p)) = true := by kernel_rfl
theorem tab9 (b0 b1 b3 b4 b5 b6 : Option W) : ((List.range 50).all fun p => okP b0 b1 b3 b4 b5 b6 (450 + p)) = true := by kernel_rfl
end L00
namespace L00
open PySem PySem.Spec PyProof.Rows L2 EV
theorem tab10 (b0 b1 b3 b4 b5 b6 : Option W) : ((List.range 50).all fun p => okP b0 b1 b3 b4 b5 b6 (500 + p)) = true := by kernel_rfl
theorem tab11 (b0 b1 b3 b4 b5 b6 : Option W) : ((List.range 50).all fun p => okP b0 b1 b3 b4 b5 b6 (550 + p)) = true := by kernel_rfl
theorem tab12 (b0 b1 b3 b4 b5 b6 : Option W) : ((List.range 50).all fun p => okP b0 b1 b3 b4 b5 b6 (600 + p)) = true := by kernel_rfl
theorem tab13 (b0 b1 b3 b4 b5 b6 : Option W) : ((List.range 50).all fun p => okP b0 b1 b3 b4 b5 b6 (650 + p)) = true := by kernel_rfl
theorem tab14 (b0 b1 b3 b4 b5 b6 : Option W) : ((List.range 50).all fun p => okP b0 b1 b3 b4 b5 b6 (700 + p)) = true := by kernel_rfl
end L00
namespace L00
open PySem PySem.Spec PyProof.Rows L2 EV
theorem tab15 (b0 b1 b3 b4 b5 b6 : Option W) : ((List.range 50).all fun p => okP b0 b1 b3 b4 b5 b6 (750 + p)) = true := by kernel_rfl
theorem tab16 (b0 b1 b3 b4 b5 b6 : Option W) : ((List.range 50).all fun p => okP b0 b1 b3 b4 b5 b6 (800 + p)) = true := by kernel_rfl
theorem tab17 (b0 b1 b3 b4 b5 b6 : Option W) : ((List.range 50).all fun p => okP b0 b1 b3 b4 b5 b6 (850 + p)) = true := by kernel_rfl
theorem tab18 (b0 b1 b3 b4 b5 b6 : Option W) : ((List.range 50).all fun p => okP b0 b1 b3 b4 b5 b6 (900 + p)) = true := by kernel_rfl
theorem tab19 (b0 b1 b3 b4 b5 b6 : Option W) : ((List.range 50).all fun p => okP b0 b1 b3 b4 b5 b6 (950 + p)) = true := by kernel_rfl
end L00
namespace L00
open PySem PySem.Spec PyProof.Rows L2 EV
theorem tab (b0 b1 b3 b4 b5 b6 : Option W) (p : Nat) (hp : p < 1000) : okP b0 b1 b3 b4 b5 b6 p = true := by
  have g : ∀ {a q : Nat}, ((List.range 50).all fun p => okP b0 b1 b3 b4 b5 b6 (a + p)) = true → q < 50 → okP b0 b1 b3 b4 b5 b6 (a + q) = true := fun e hq => List.all_eq_true.mp e _ (List.mem_range.mpr hq)
  have hc : p / 50 = 0 ∨ p / 50 = 1 ∨ p / 50 = 2 ∨ p / 50 = 3 ∨ p / 50 = 4 ∨ p / 50 = 5 ∨ p / 50 = 6 ∨ p / 50 = 7 ∨ p / 50 = 8 ∨ p / 50 = 9 ∨ p / 50 = 10 ∨ p / 50 = 11 ∨ p / 50 = 12 ∨ p / 50 = 13 ∨ p / 50 = 14 ∨ p / 50 = 15 ∨ p / 50 = 16 ∨ p / 50 = 17 ∨ p / 50 = 18 ∨ p / 50 = 19 := by omega
  rcases hc with c | c | c | c | c | c | c | c | c | c | c | c | c | c | c | c | c | c | c | c
  · have z := g (q := p - 0) (tab0 b0 b1 b3 b4 b5 b6) (by omega)
    rwa [show 0 + (p - 0) = p by omega] at z
  · have z := g (q := p - 50) (tab1 b0 b1 b3 b4 b5 b6) (by omega)
    rwa [show 50 + (p - 50) = p by omega] at z
  · have z := g (q := p - 100) (tab2 b0 b1 b3 b4 b5 b6) (by omega)
    rwa [show 100 + (p - 100) = p by omega] at z
  · have z := g (q := p - 150) (tab3 b0 b1 b3 b4 b5 b6) (by omega)
    rwa [show 150 + (p - 150) = p by omega] at z
  · have z := g (q := p - 200) (tab4 b0 b1 b3 b4 b5 b6) (by omega)
    rwa [show 200 + (p - 200) = p by omega] at z
  · have z := g (q := p - 250) (tab5 b0 b1 b3 b4 b5 b6) (by omega)
    rwa [show 250 + (p - 250) = p by omega] at z
  · have z := g (q := p - 300) (tab6 b0 b1 b3 b4 b5 b6) (by omega)
    rwa [show 300 + (p - 300) = p by omega] at z
  · have z := g (q := p - 350) (tab7 b0 b1 b3 b4 b5 b6) (by omega)
    rwa [show 350 + (p - 350) = p by omega] at z
  · have z := g (q := p - 400) (tab8 b0 b1 b3 b4 b5 b6) (by omega)
    rwa [show 400 + (p - 400) = p by omega] at z
  · have z := g (q := p - 450) (tab9 b0 b1 b3 b4 b5 b6) (by omega)
    rwa [show 450 + (p - 450) = p by omega] at z
  · have z := g (q := p - 500) (tab10 b0 b1 b3 b4 b5 b6) (by omega)
    rwa [show 500 + (p - 500) = p by omega] at z
  · have z := g (q := p - 550) (tab11 b0 b1 b3 b4 b5 b6) (by omega)
    rwa [show 550 + (p - 550) = p by omega] at z
  · have z := g (q := p - 600) (tab12 b0 b1 b3 b4 b5 b6) (by omega)
    rwa [show 600 + (p - 600) = p by omega] at z
  · have z := g (q := p - 650) (tab13 b0 b1 b3 b4 b5 b6) (by omega)
    rwa [show 650 + (p - 650) = p by omega] at z
  · have z := g (q := p - 700) (tab14 b0 b1 b3 b4 b5 b6) (by omega)
    rwa [show 700 + (p - 700) = p by omega] at z
  · have z := g (q := p - 750) (tab15 b0 b1 b3 b4 b5 b6) (by omega)
    rwa [show 750 + (p - 750) = p by omega] at z
  · have z := g (q := p - 800) (tab16 b0 b1 b3 b4 b5 b6) (by omega)
    rwa [show 800 + (p - 800) = p by omega] at z
  · have z := g (q := p - 850) (tab17 b0 b1 b3 b4 b5 b6) (by omega)
    rwa [show 850 + (p - 850) = p by omega] at z
  · have z := g (q := p - 900) (tab18 b0 b1 b3 b4 b5 b6) (by omega)
    rwa [show 900 + (p - 900) = p by omega] at z
  · have z := g (q := p - 950) (tab19 b0 b1 b3 b4 b5 b6) (by omega)
    rwa [show 950 + (p - 950) = p by omega] at z
theorem step_ok (b0 b2 b3 b4 b5 b6 : Option W) (z : Int) : stepP [b0, some (.int z), b2, b3, b4, b5, b6] Hpe.nil = .nx [b0, some (.int z), some (.int ((if z < 0 then -z else z) % 1000)), b3, b4, b5, b6] Hpe.nil := rfl
theorem blank_7 (a0 a2 a3 a4 a5 a6 : Option W) (z : Int) : blankR [a0, some (.int z), a2, a3, a4, a5, a6] = [blankO a0, some (.int z), blankO a2, blankO a3, blankO a4, blankO a5, blankO a6] := rfl
def bodyT (T : Tab) : FS := sSeq stepP (restP T)
abbrev bodyP : FS := bodyT (callE 113)
theorem len7 : ∀ {l : Rho}, l.length = 7 → ∃ a0 a1 a2 a3 a4 a5 a6, l = [a0, a1, a2, a3, a4, a5, a6]
  | [a0, a1, a2, a3, a4, a5, a6], _ => ⟨a0, a1, a2, a3, a4, a5, a6, rfl⟩
theorem nx7_of {r : RS} (t : isNx7 r = true) : ∃ ρ' h', r = .nx ρ' h' ∧ ρ'.length = 7 := by
  cases r with
  | nx ρ' h' => exact ⟨ρ', h', rfl, Nat.eq_of_beq_eq_true t⟩
  | rt _ _ => cases t
  | ex _ _ _ => cases t
  | bk _ _ => cases t
  | ct _ _ => cases t
  | no => cases t
theorem fr_nx {f : FS} {ρ ρ' : Rho} {h h' : Hpe} (e : f (blankR ρ) Hpe.nil = .nx ρ' h') : frS f ρ h = .nx (blankR ρ') h := by
  unfold frS
  rw [e]
theorem body_ok (a0 a2 a3 a4 a5 a6 : Option W) (z : Int) (h : Hpe) : ∃ ρ', ρ'.length = 7 ∧ frS bodyP [a0, some (.int z), a2, a3, a4, a5, a6] h = .nx ρ' h := by
  have hp : ∃ p : Nat, (if z < 0 then -z else z) % 1000 = Int.ofNat p ∧ p < 1000 := by
    refine ⟨((if z < 0 then -z else z) % 1000).toNat, ?_, ?_⟩
    · show _ = ((_ : Nat) : Int)
      split <;> omega
    · split <;> omega
  obtain ⟨p, e, hp⟩ := hp
  obtain ⟨ρ', h', q, l7⟩ := nx7_of (tab (blankO a0) (some (.int z)) (blankO a3) (blankO a4) (blankO a5) (blankO a6) p hp)
  have eb : bodyP (blankR [a0, some (.int z), a2, a3, a4, a5, a6]) Hpe.nil = .nx ρ' h' := by
    rw [blank_7]
    unfold bodyP bodyT
    rw [seq_nx (step_ok _ _ _ _ _ _ z), e]
    exact q
  exact ⟨blankR ρ', by unfold blankR; rw [List.length_map]; exact l7, fr_nx eb⟩
theorem forE_turn {src : Src} {g : FG} {b : FS} {k i : Nat} {ρ ρ1 ρ2 : Rho} {h h2 : Hpe} {w : W} (es : src h i = some (some w)) (eg : g w ρ h = .nx ρ1 h) (eb : b ρ1 h = .nx ρ2 h2) : forE src g b (k + 1) i ρ h = forE src g b k (i + 1) ρ2 h2 := by
  conv => lhs; unfold forE
  rw [es]
  dsimp only
  rw [eg]
  dsimp only
  rw [eb]
theorem forE_end {src : Src} {g : FG} {b : FS} {k i : Nat} {ρ : Rho} {h : Hpe} (es : src h i = some none) : forE src g b (k + 1) i ρ h = .nx ρ h := by
  conv => lhs; unfold forE
  rw [es]
theorem for_nx {fi : FI} {g : FG} {b : FS} {src : Src} {ρ ρ' : Rho} {h h1 h2 : Hpe} (e1 : fi ρ h = .ok src h1) (e2 : forE src g b 1000000 0 ρ h1 = .nx ρ' h2) : sUn (sFor fi g b) ρ h = .nx ρ' (unl h h2) := by
  have e : sFor fi g b ρ h = .nx ρ' h2 := by
    unfold sFor bindS
    rw [e1]
    exact e2
  unfold sUn
  rw [e]
theorem loop_ok {n : Nat} {is : List Int} {h : Hpe} (g : h.get n = some (.lst (is.map W.int))) : ∀ (k i : Nat) (ρ : Rho), ρ.length = 7 → i ≤ is.length → is.length < i + k → ∃ ρ', ρ'.length = 7 ∧ forE (srcL n) (gN 1) (frS bodyP) k i ρ h = .nx ρ' h
  | 0, i, ρ, hl, hi, hk => absurd hk (by omega)
  | k + 1, i, ρ, hl, hi, hk => by
    cases q2 : is[i]? with
    | none =>
      have es2 : srcL n h i = some none := by
        unfold srcL
        rw [rdL_of g]
        dsimp only
        rw [nthR_eq, List.getElem?_map, q2]
        rfl
      exact ⟨ρ, hl, forE_end es2⟩
    | some z =>
      have es2 : srcL n h i = some (some (.int z)) := by
        unfold srcL
        rw [rdL_of g]
        dsimp only
        rw [nthR_eq, List.getElem?_map, q2]
        rfl
      obtain ⟨a0, a1, a2, a3, a4, a5, a6, rfl⟩ := len7 hl
      obtain ⟨ρ2, l2, e2⟩ := body_ok a0 a2 a3 a4 a5 a6 z h
      have hi2 : i < is.length := (List.getElem?_eq_some_iff.mp q2).1
      obtain ⟨ρ3, l3, e3⟩ := loop_ok g k (i + 1) ρ2 l2 hi2 (by omega)
      exact ⟨ρ3, l3, (forE_turn es2 (show gN 1 (.int z) [a0, a1, a2, a3, a4, a5, a6] h = .nx [a0, some (.int z), a2, a3, a4, a5, a6] h from rfl) e2).trans e3⟩
theorem cut_ints (ns : List Int) : ∃ is : List Int, cutW (ns.map W.int) none (some 8) = is.map W.int ∧ is.length ≤ ns.length := by
  refine ⟨(ns.drop (HT.sIx (ns.map W.int).length 0 none)).take (HT.sIx (ns.map W.int).length (ns.map W.int).length (some 8) - HT.sIx (ns.map W.int).length 0 none), ?_, ?_⟩
  · unfold cutW
    rw [List.map_take, List.map_drop]
  · rw [List.length_take, List.length_drop]
    omega
theorem al_1 {h : Hpe} (o : Ob) (b : h.nx < 1000) : h.al o = .ok (.ref h.nx) (h.new o) := by
  unfold Hpe.al
  rw [show Nat.blt h.nx 1099511627776 = true from Nat.ble_eq_true_of_le (by omega)]
  rfl
theorem src_ok (ns : List Int) (hl : ns.length ≤ 63) (o : Ob) (ho : o = .lst (ns.map W.int) ∨ o = .fz (ns.map W.int)) : ∃ (h : Hpe) (is : List Int), srcE [some (.ref 0), none, none, none, none, none, none] (Hpe.nil.new o) = .ok (.ref 4) h ∧ h.get 4 = some (.lst (is.map W.int)) ∧ is.length ≤ 70 := by
  have a : AtScr ns (Hpe.nil.new o) := by
    unfold AtScr
    rcases ho with rfl | rfl
    · exact .inl rfl
    · exact .inr rfl
  obtain ⟨is, ei, li⟩ := cut_ints ns
  have s1 : eSl (eV 0) oN (oS (eK (.int 8))) [some (.ref 0), none, none, none, none, none, none] (Hpe.nil.new o) = .ok (.ref 1) ((Hpe.nil.new o).new (.lst (is.map W.int))) := by
    show (match rdL (Hpe.nil.new o) 0 with
      | some ws => (Hpe.nil.new o).al (.lst (cutW ws none (some 8)))
      | none => .no) = _
    rw [scr_rd a]
    dsimp only
    rw [ei]
    exact al_1 _ (show 1 < 1000 by decide)
  have g1 : ((Hpe.nil.new o).new (.lst (is.map W.int))).get 1 = some (.lst (is.map W.int)) := new_get (h := Hpe.nil.new o) _ (show 1 + 1 < 2199023255552 by decide)
  have s2 : eBl bLst3 (aC (eSl (eV 0) oN (oS (eK (.int 8)))) aN) [some (.ref 0), none, none, none, none, none, none] (Hpe.nil.new o) = .ok (.ref 2) (((Hpe.nil.new o).new (.lst (is.map W.int))).new (.lst (is.map W.int))) := by
    refine (bl_1 s1).trans ?_
    have e : bLst [.ref 1] ((Hpe.nil.new o).new (.lst (is.map W.int))) = .ok (.ref 2) (((Hpe.nil.new o).new (.lst (is.map W.int))).new (.lst (is.map W.int))) := by
      show (match rdL ((Hpe.nil.new o).new (.lst (is.map W.int))) 1 with
        | some ws => ((Hpe.nil.new o).new (.lst (is.map W.int))).al (.lst ws)
        | none => .no) = _
      rw [rdL_of g1]
      exact al_1 _ (show 2 < 1000 by decide)
    unfold bLst3
    dsimp only
    rw [g1]
    exact e
  have g2 : (((Hpe.nil.new o).new (.lst (is.map W.int))).new (.lst (is.map W.int))).get 2 = some (.lst (is.map W.int)) := new_get (h := (Hpe.nil.new o).new (.lst (is.map W.int))) _ (show 2 + 1 < 2199023255552 by decide)
  have s3 : eLst (aC (eK (.int 0)) (aC (eK (.int 1)) (aC (eK (.int 999)) aN))) [some (.ref 0), none, none, none, none, none, none] (((Hpe.nil.new o).new (.lst (is.map W.int))).new (.lst (is.map W.int))) = .ok (.ref 3) ((((Hpe.nil.new o).new (.lst (is.map W.int))).new (.lst (is.map W.int))).new (.lst [.int 0, .int 1, .int 999])) :=
    (lst_ok (ws := [.int 0, .int 1, .int 999]) rfl rfl).trans (al_1 _ (show 3 < 1000 by decide))
  have g3 : ((((Hpe.nil.new o).new (.lst (is.map W.int))).new (.lst (is.map W.int))).new (.lst [.int 0, .int 1, .int 999])).get 3 = some (.lst [.int 0, .int 1, .int 999]) := new_get (h := ((Hpe.nil.new o).new (.lst (is.map W.int))).new (.lst (is.map W.int))) _ (show 3 + 1 < 2199023255552 by decide)
  have g4 : ((((Hpe.nil.new o).new (.lst (is.map W.int))).new (.lst (is.map W.int))).new (.lst [.int 0, .int 1, .int 999])).get 2 = some (.lst (is.map W.int)) := (new_old _ (show 2 ≠ 3 by decide)).trans g2
  refine ⟨((((Hpe.nil.new o).new (.lst (is.map W.int))).new (.lst (is.map W.int))).new (.lst [.int 0, .int 1, .int 999])).new (.lst ((is ++ [0, 1, 999]).map W.int)), is ++ [0, 1, 999], ?_, new_get (h := (((Hpe.nil.new o).new (.lst (is.map W.int))).new (.lst (is.map W.int))).new (.lst [.int 0, .int 1, .int 999])) _ (show 4 + 1 < 2199023255552 by decide), by rw [List.length_append]; show is.length + 3 ≤ 70; omega⟩
  refine (e2_ok s2 s3).trans ?_
  unfold gAdd
  dsimp only
  rw [rdL_of g3, rdL_of g4]
  dsimp only
  have ll : line ((is.map W.int).length + [W.int 0, .int 1, .int 999].length) = true := Nat.ble_eq_true_of_le (by rw [List.length_map]; show is.length + 3 ≤ 100000; omega)
  rw [ll, List.map_append, cond_true]
  refine al_1 _ ?_
  show 4 < 1000
  decide
theorem at4 (T : Tab) : (bodies T).get 4 = frm (runB 6 (F__law_by_hand_right T)) := rfl
theorem hand (h : Hpe) : callE 113 4 [] h = .ok (.bl true) h := by
  rw [callE_at, at4]
  exact frm_kn rfl rfl (by kernel_rfl) h
theorem law_eq (T : Tab) : F_law T = sSeq (sIf (tNt (asT (eCl0 (T 4)))) (sSeq (sRt (eK (.bl false))) sNil) sNil) (sSeq (sUn (sFor (iV3 srcE) (gN 1) (frS (bodyT T)))) (sSeq (sRt (eK (.bl true))) sNil)) := rfl
theorem law_run {T : Tab} {ρ ρ' : Rho} {h0 h1 : Hpe} (p : T 4 [] h0 = .ok (.bl true) h0) (e3 : sUn (sFor (iV3 srcE) (gN 1) (frS (bodyT T))) ρ h0 = .nx ρ' h1) : F_law T ρ h0 = .rt (.bl true) h1 := by
  rw [law_eq]
  have f1 : (tNt (asT (eCl0 (T 4)))) ρ h0 = .ok false h0 := nt_ok p
  refine (seq_nx ((sif_no f1).trans rfl)).trans ?_
  refine (seq_nx e3).trans ?_
  exact seq_rt (srt_ok rfl)
theorem law_fin {T : Tab} {h h' : Hpe} (e : F_law T [some (.ref 0), none, none, none, none, none, none] h = .rt (.bl true) h') : runB 7 (F_law T) [.ref 0] h = .ok (.bl true) h' := run_rt (n := 7) (ws := [.ref 0]) e
theorem iv3_lst {f : FE} {ρ : Rho} {h h1 : Hpe} {n : Nat} {ws : List W} (e1 : f ρ h = .ok (.ref n) h1) (g : h1.get n = some (.lst ws)) : iV3 f ρ h = .ok (srcL n) h1 := by
  unfold iV3
  rw [e1]
  show (match lockW h1 n with
    | some (kvs, h2) => Res.ok (srcQ kvs fun p => kW p.1) h2
    | none => match rdL h1 n with
      | some _ => .ok (srcL n) h1
      | none => .no) = _
  unfold lockW
  rw [g, rdL_of g]
theorem says : Says (runB 7 (F_law (callE 113))) := by
  intro ns hl o ho
  obtain ⟨h, is, e1, g, l⟩ := src_ok ns hl o ho
  obtain ⟨ρ', l', e2⟩ := loop_ok g 1000000 0 [some (.ref 0), none, none, none, none, none, none] rfl (Nat.zero_le _) (by omega)
  exact ⟨_, law_fin (law_run (hand _) (for_nx (iv3_lst e1 g) e2))⟩
end L00
open PySem PySem.W PyProof.Rows
set_option maxRecDepth 100000 in
set_option maxHeartbeats 0 in
theorem PySem.Challenge.cw_unwound_k00_errors_holds : PySem.Challenge.rw_unwound_k00_errors.Holds := by
  refine L00.hd ?_
  k_fill
  refine EV.walk_E (names := []) (x := "script") rfl rfl (fun w h Y => by first | exact PySem.W.kIn_of Y | exact PySem.W.km_in_of Y) (by kernel_rfl) (fun w => by kernel_rfl) L00.says ?F
  case F =>
    intro w mg fa h KX N hfa
    have A0 : EV.At _ mg "_law_same" L00.s__law_same ["got", "goal"] := EV.at_mk KX N (by k_is) (by k_is) (by k_is) (by k_is) (fun _ _ _ _ _ _ us hl => match us, hl with | [_, _], _ => rfl)
    have A1 : EV.At _ mg "_law_caught" L00.s__law_caught ["way_so", "worth"] := EV.at_mk KX N (by k_is) (by k_is) (by k_is) (by k_is) (fun _ _ _ _ _ _ us hl => match us, hl with | [_, _], _ => rfl)
    have A2 : EV.At _ mg "_law_plain" L00.s__law_plain ["error"] := EV.at_mk KX N (by k_is) (by k_is) (by k_is) (by k_is) (fun _ _ _ _ _ _ us hl => match us, hl with | [_], _ => rfl)
    have A3 : EV.At _ mg "_law_kinds" L00.s__law_kinds ["error"] := EV.at_mk KX N (by k_is) (by k_is) (by k_is) (by k_is) (fun _ _ _ _ _ _ us hl => match us, hl with | [_], _ => rfl)
    have A4 : EV.At _ mg "_law_by_hand_right" L00.s__law_by_hand_right [] := EV.at_mk KX N (by k_is) (by k_is) (by k_is) (by k_is) (fun _ _ _ _ _ _ us hl => match us, hl with | [], _ => rfl)
    have A5 : EV.At _ mg "law" L00.s_law ["script"] := EV.at_mk KX N (by k_is) (by k_is) (by k_is) (by k_is) (fun _ _ _ _ _ _ us hl => match us, hl with | [_], _ => rfl)
    have m_IndexError : mg "IndexError" = none := PySem.W.mg_none_of KX N (by k_is)
    have m_KeyError : mg "KeyError" = none := PySem.W.mg_none_of KX N (by k_is)
    have m_LookupError : mg "LookupError" = none := PySem.W.mg_none_of KX N (by k_is)
    have m_ValueError : mg "ValueError" = none := PySem.W.mg_none_of KX N (by k_is)
    have m_abs : mg "abs" = none := PySem.W.mg_none_of KX N (by k_is)
    have m_all : mg "all" = none := PySem.W.mg_none_of KX N (by k_is)
    have m_bool : mg "bool" = none := PySem.W.mg_none_of KX N (by k_is)
    have m_int : mg "int" = none := PySem.W.mg_none_of KX N (by k_is)
    have m_isinstance : mg "isinstance" = none := PySem.W.mg_none_of KX N (by k_is)
    have m_len : mg "len" = none := PySem.W.mg_none_of KX N (by k_is)
    have m_list : mg "list" = none := PySem.W.mg_none_of KX N (by k_is)
    have m_range : mg "range" = none := PySem.W.mg_none_of KX N (by k_is)
    have m_str : mg "str" = none := PySem.W.mg_none_of KX N (by k_is)
    have m_tuple : mg "tuple" = none := PySem.W.mg_none_of KX N (by k_is)
    have m_zip : mg "zip" = none := PySem.W.mg_none_of KX N (by k_is)
    have m_LookupError : mg "LookupError" = none := PySem.W.mg_none_of KX N (by k_is)
    have m_ValueError : mg "ValueError" = none := PySem.W.mg_none_of KX N (by k_is)
    have ⟨Cs, CF0⟩ : ∃ Cs : List Addr, L00.CF PySem.Challenge.rw_unwound_k00_errors.prog w _ mg Cs := ⟨[_, _, _, _, _, _, _], {
      at_ := ⟨by k_is, ⟨by k_is, ⟨by k_is, ⟨by k_is, ⟨by k_is, ⟨by k_is, ⟨by k_is, trivial⟩⟩⟩⟩⟩⟩⟩,
      i_NoPlace := L00.own_NoPlace KX N rfl (by k_is) ⟨⟨_, _, _, _, _, _, _, _, _, _, _, _, _, _, by k_is⟩, by k_is, by k_is, by k_is, by k_is⟩ (by k_is) (by k_is) (by k_is) (by k_is) (by k_is) (by k_is) (by k_is) m_LookupError,
      ik_NoPlace := L00.ownIK_NoPlace KX N rfl (by k_is) ⟨⟨_, _, _, _, _, _, _, _, _, _, _, _, _, _, by k_is⟩, by k_is, by k_is, by k_is, by k_is⟩ (by k_is) (by k_is) (by k_is) (by k_is) (by k_is) (by k_is) (by k_is) m_LookupError,
      v_NoPlace := EV.exV_mk (C := _) rfl ⟨by k_is, by k_is, by k_is, by k_is, by k_is, by k_is, by k_is, by k_is⟩,
      f_NoPlace_place := EV.cls_is (p := fun D => PySem.W.findIn _ (.ref D) "place" = some none) rfl (by k_is),
      n_NoPlace := EV.exN_mk KX N rfl (by k_is) (by k_is) (by k_is) (by k_is) ⟨by k_is, ⟨by k_is, ⟨by k_is, ⟨by k_is, ⟨by k_is, ⟨by k_is, ⟨by k_is, trivial⟩⟩⟩⟩⟩⟩⟩,
      i_BadLine := L00.own_BadLine KX N rfl (by k_is) ⟨⟨_, _, _, _, _, _, _, _, _, _, _, _, _, _, by k_is⟩, by k_is, by k_is, by k_is, by k_is⟩ (by k_is) (by k_is) (by k_is) (by k_is) (by k_is) (by k_is) (by k_is) m_ValueError,
      ik_BadLine := L00.ownIK_BadLine KX N rfl (by k_is) ⟨⟨_, _, _, _, _, _, _, _, _, _, _, _, _, _, by k_is⟩, by k_is, by k_is, by k_is, by k_is⟩ (by k_is) (by k_is) (by k_is) (by k_is) (by k_is) (by k_is) (by k_is) m_ValueError,
      v_BadLine := EV.exV_mk (C := _) rfl ⟨by k_is, by k_is, by k_is, by k_is, by k_is, by k_is, by k_is, by k_is⟩,
      f_BadLine_line := EV.cls_is (p := fun D => PySem.W.findIn _ (.ref D) "line" = some none) rfl (by k_is),
      n_BadLine := EV.exN_mk KX N rfl (by k_is) (by k_is) (by k_is) (by k_is) ⟨by k_is, ⟨by k_is, ⟨by k_is, ⟨by k_is, ⟨by k_is, ⟨by k_is, ⟨by k_is, trivial⟩⟩⟩⟩⟩⟩⟩,
      e_CanNot := EV.exE_mk KX N rfl PySem.F.excBase_ValueError (by k_is) (by k_exc) (by k_is) (by k_is) (by k_is),
      e_TooMuch := EV.exE_mk KX N rfl PySem.F.excBase_ValueError (by k_is) (by k_exc) (by k_is) (by k_is) (by k_is),
      e_Unfit := EV.exE_mk KX N rfl PySem.F.excBase_ValueError (by k_is) (by k_exc) (by k_is) (by k_is) (by k_is),
      t_Ring := L00.ownT_Ring KX N rfl (by k_is) ⟨⟨_, _, _, _, _, _, _, _, _, _, _, _, _, _, by k_is⟩, by k_is, by k_is, by k_is, by k_is⟩ (by k_is) (by k_is) (by k_is) (by k_is) (by k_is) (by k_is) (by k_is) m_ValueError ⟨by k_is, by k_is, by k_is, by k_is⟩ m_tuple,
      tk_Ring := L00.ownTK_Ring KX N rfl (by k_is) ⟨⟨_, _, _, _, _, _, _, _, _, _, _, _, _, _, by k_is⟩, by k_is, by k_is, by k_is, by k_is⟩ (by k_is) (by k_is) (by k_is) (by k_is) (by k_is) (by k_is) (by k_is) m_ValueError ⟨by k_is, by k_is, by k_is, by k_is⟩ m_tuple,
      v_Ring := EV.exV_mk (C := _) rfl ⟨by k_is, by k_is, by k_is, by k_is, by k_is, by k_is, by k_is, by k_is⟩,
      f_Ring_names := EV.cls_is (p := fun D => PySem.W.findIn _ (.ref D) "names" = some none) rfl (by k_is),
      n_Ring := EV.exN_mk KX N rfl (by k_is) (by k_is) (by k_is) (by k_is) ⟨by k_is, ⟨by k_is, ⟨by k_is, ⟨by k_is, ⟨by k_is, ⟨by k_is, ⟨by k_is, trivial⟩⟩⟩⟩⟩⟩⟩,
      t_Endless := L00.ownT_Endless KX N rfl (by k_is) ⟨⟨_, _, _, _, _, _, _, _, _, _, _, _, _, _, by k_is⟩, by k_is, by k_is, by k_is, by k_is⟩ (by k_is) (by k_is) (by k_is) (by k_is) (by k_is) (by k_is) (by k_is) m_ValueError ⟨by k_is, by k_is, by k_is, by k_is⟩ m_tuple,
      tk_Endless := L00.ownTK_Endless KX N rfl (by k_is) ⟨⟨_, _, _, _, _, _, _, _, _, _, _, _, _, _, by k_is⟩, by k_is, by k_is, by k_is, by k_is⟩ (by k_is) (by k_is) (by k_is) (by k_is) (by k_is) (by k_is) (by k_is) m_ValueError ⟨by k_is, by k_is, by k_is, by k_is⟩ m_tuple,
      v_Endless := EV.exV_mk (C := _) rfl ⟨by k_is, by k_is, by k_is, by k_is, by k_is, by k_is, by k_is, by k_is⟩,
      f_Endless_names := EV.cls_is (p := fun D => PySem.W.findIn _ (.ref D) "names" = some none) rfl (by k_is),
      n_Endless := EV.exN_mk KX N rfl (by k_is) (by k_is) (by k_is) (by k_is) ⟨by k_is, ⟨by k_is, ⟨by k_is, ⟨by k_is, ⟨by k_is, ⟨by k_is, ⟨by k_is, trivial⟩⟩⟩⟩⟩⟩⟩,
      is_BadLine := ⟨_, PySem.W.mg_of KX N (by k_is), (EV.isT_cons rfl ⟨by k_is, by k_is, by k_is, by k_is, by k_is, by k_is, by k_is, by k_is⟩ (by kernel_rfl) (EV.isT_cons rfl ⟨by k_is, by k_is, by k_is, by k_is, by k_is, by k_is, by k_is, by k_is⟩ (by kernel_rfl) (EV.isT_cons rfl ⟨by k_is, by k_is, by k_is, by k_is, by k_is, by k_is, by k_is, by k_is⟩ (by kernel_rfl) (EV.isT_cons rfl ⟨by k_is, by k_is, by k_is, by k_is, by k_is, by k_is, by k_is, by k_is⟩ (by kernel_rfl) (EV.isT_cons rfl ⟨by k_is, by k_is, by k_is, by k_is, by k_is, by k_is, by k_is, by k_is⟩ (by kernel_rfl) (EV.isT_cons rfl ⟨by k_is, by k_is, by k_is, by k_is, by k_is, by k_is, by k_is, by k_is⟩ (by kernel_rfl) (EV.isT_cons rfl ⟨by k_is, by k_is, by k_is, by k_is, by k_is, by k_is, by k_is, by k_is⟩ (by kernel_rfl) EV.isT_nil)))))))⟩,
      is_CanNot := ⟨_, PySem.W.mg_of KX N (by k_is), (EV.isT_cons rfl ⟨by k_is, by k_is, by k_is, by k_is, by k_is, by k_is, by k_is, by k_is⟩ (by kernel_rfl) (EV.isT_cons rfl ⟨by k_is, by k_is, by k_is, by k_is, by k_is, by k_is, by k_is, by k_is⟩ (by kernel_rfl) (EV.isT_cons rfl ⟨by k_is, by k_is, by k_is, by k_is, by k_is, by k_is, by k_is, by k_is⟩ (by kernel_rfl) (EV.isT_cons rfl ⟨by k_is, by k_is, by k_is, by k_is, by k_is, by k_is, by k_is, by k_is⟩ (by kernel_rfl) (EV.isT_cons rfl ⟨by k_is, by k_is, by k_is, by k_is, by k_is, by k_is, by k_is, by k_is⟩ (by kernel_rfl) (EV.isT_cons rfl ⟨by k_is, by k_is, by k_is, by k_is, by k_is, by k_is, by k_is, by k_is⟩ (by kernel_rfl) (EV.isT_cons rfl ⟨by k_is, by k_is, by k_is, by k_is, by k_is, by k_is, by k_is, by k_is⟩ (by kernel_rfl) EV.isT_nil)))))))⟩,
      is_Endless := ⟨_, PySem.W.mg_of KX N (by k_is), (EV.isT_cons rfl ⟨by k_is, by k_is, by k_is, by k_is, by k_is, by k_is, by k_is, by k_is⟩ (by kernel_rfl) (EV.isT_cons rfl ⟨by k_is, by k_is, by k_is, by k_is, by k_is, by k_is, by k_is, by k_is⟩ (by kernel_rfl) (EV.isT_cons rfl ⟨by k_is, by k_is, by k_is, by k_is, by k_is, by k_is, by k_is, by k_is⟩ (by kernel_rfl) (EV.isT_cons rfl ⟨by k_is, by k_is, by k_is, by k_is, by k_is, by k_is, by k_is, by k_is⟩ (by kernel_rfl) (EV.isT_cons rfl ⟨by k_is, by k_is, by k_is, by k_is, by k_is, by k_is, by k_is, by k_is⟩ (by kernel_rfl) (EV.isT_cons rfl ⟨by k_is, by k_is, by k_is, by k_is, by k_is, by k_is, by k_is, by k_is⟩ (by kernel_rfl) (EV.isT_cons rfl ⟨by k_is, by k_is, by k_is, by k_is, by k_is, by k_is, by k_is, by k_is⟩ (by kernel_rfl) EV.isT_nil)))))))⟩,
      is_IndexError := (EV.isT_cons rfl ⟨by k_is, by k_is, by k_is, by k_is, by k_is, by k_is, by k_is, by k_is⟩ (by kernel_rfl) (EV.isT_cons rfl ⟨by k_is, by k_is, by k_is, by k_is, by k_is, by k_is, by k_is, by k_is⟩ (by kernel_rfl) (EV.isT_cons rfl ⟨by k_is, by k_is, by k_is, by k_is, by k_is, by k_is, by k_is, by k_is⟩ (by kernel_rfl) (EV.isT_cons rfl ⟨by k_is, by k_is, by k_is, by k_is, by k_is, by k_is, by k_is, by k_is⟩ (by kernel_rfl) (EV.isT_cons rfl ⟨by k_is, by k_is, by k_is, by k_is, by k_is, by k_is, by k_is, by k_is⟩ (by kernel_rfl) (EV.isT_cons rfl ⟨by k_is, by k_is, by k_is, by k_is, by k_is, by k_is, by k_is, by k_is⟩ (by kernel_rfl) (EV.isT_cons rfl ⟨by k_is, by k_is, by k_is, by k_is, by k_is, by k_is, by k_is, by k_is⟩ (by kernel_rfl) EV.isT_nil))))))),
      is_KeyError := (EV.isT_cons rfl ⟨by k_is, by k_is, by k_is, by k_is, by k_is, by k_is, by k_is, by k_is⟩ (by kernel_rfl) (EV.isT_cons rfl ⟨by k_is, by k_is, by k_is, by k_is, by k_is, by k_is, by k_is, by k_is⟩ (by kernel_rfl) (EV.isT_cons rfl ⟨by k_is, by k_is, by k_is, by k_is, by k_is, by k_is, by k_is, by k_is⟩ (by kernel_rfl) (EV.isT_cons rfl ⟨by k_is, by k_is, by k_is, by k_is, by k_is, by k_is, by k_is, by k_is⟩ (by kernel_rfl) (EV.isT_cons rfl ⟨by k_is, by k_is, by k_is, by k_is, by k_is, by k_is, by k_is, by k_is⟩ (by kernel_rfl) (EV.isT_cons rfl ⟨by k_is, by k_is, by k_is, by k_is, by k_is, by k_is, by k_is, by k_is⟩ (by kernel_rfl) (EV.isT_cons rfl ⟨by k_is, by k_is, by k_is, by k_is, by k_is, by k_is, by k_is, by k_is⟩ (by kernel_rfl) EV.isT_nil))))))),
      is_LookupError := (EV.isT_cons rfl ⟨by k_is, by k_is, by k_is, by k_is, by k_is, by k_is, by k_is, by k_is⟩ (by kernel_rfl) (EV.isT_cons rfl ⟨by k_is, by k_is, by k_is, by k_is, by k_is, by k_is, by k_is, by k_is⟩ (by kernel_rfl) (EV.isT_cons rfl ⟨by k_is, by k_is, by k_is, by k_is, by k_is, by k_is, by k_is, by k_is⟩ (by kernel_rfl) (EV.isT_cons rfl ⟨by k_is, by k_is, by k_is, by k_is, by k_is, by k_is, by k_is, by k_is⟩ (by kernel_rfl) (EV.isT_cons rfl ⟨by k_is, by k_is, by k_is, by k_is, by k_is, by k_is, by k_is, by k_is⟩ (by kernel_rfl) (EV.isT_cons rfl ⟨by k_is, by k_is, by k_is, by k_is, by k_is, by k_is, by k_is, by k_is⟩ (by kernel_rfl) (EV.isT_cons rfl ⟨by k_is, by k_is, by k_is, by k_is, by k_is, by k_is, by k_is, by k_is⟩ (by kernel_rfl) EV.isT_nil))))))),
      is_NoPlace := ⟨_, PySem.W.mg_of KX N (by k_is), (EV.isT_cons rfl ⟨by k_is, by k_is, by k_is, by k_is, by k_is, by k_is, by k_is, by k_is⟩ (by kernel_rfl) (EV.isT_cons rfl ⟨by k_is, by k_is, by k_is, by k_is, by k_is, by k_is, by k_is, by k_is⟩ (by kernel_rfl) (EV.isT_cons rfl ⟨by k_is, by k_is, by k_is, by k_is, by k_is, by k_is, by k_is, by k_is⟩ (by kernel_rfl) (EV.isT_cons rfl ⟨by k_is, by k_is, by k_is, by k_is, by k_is, by k_is, by k_is, by k_is⟩ (by kernel_rfl) (EV.isT_cons rfl ⟨by k_is, by k_is, by k_is, by k_is, by k_is, by k_is, by k_is, by k_is⟩ (by kernel_rfl) (EV.isT_cons rfl ⟨by k_is, by k_is, by k_is, by k_is, by k_is, by k_is, by k_is, by k_is⟩ (by kernel_rfl) (EV.isT_cons rfl ⟨by k_is, by k_is, by k_is, by k_is, by k_is, by k_is, by k_is, by k_is⟩ (by kernel_rfl) EV.isT_nil)))))))⟩,
      is_Ring := ⟨_, PySem.W.mg_of KX N (by k_is), (EV.isT_cons rfl ⟨by k_is, by k_is, by k_is, by k_is, by k_is, by k_is, by k_is, by k_is⟩ (by kernel_rfl) (EV.isT_cons rfl ⟨by k_is, by k_is, by k_is, by k_is, by k_is, by k_is, by k_is, by k_is⟩ (by kernel_rfl) (EV.isT_cons rfl ⟨by k_is, by k_is, by k_is, by k_is, by k_is, by k_is, by k_is, by k_is⟩ (by kernel_rfl) (EV.isT_cons rfl ⟨by k_is, by k_is, by k_is, by k_is, by k_is, by k_is, by k_is, by k_is⟩ (by kernel_rfl) (EV.isT_cons rfl ⟨by k_is, by k_is, by k_is, by k_is, by k_is, by k_is, by k_is, by k_is⟩ (by kernel_rfl) (EV.isT_cons rfl ⟨by k_is, by k_is, by k_is, by k_is, by k_is, by k_is, by k_is, by k_is⟩ (by kernel_rfl) (EV.isT_cons rfl ⟨by k_is, by k_is, by k_is, by k_is, by k_is, by k_is, by k_is, by k_is⟩ (by kernel_rfl) EV.isT_nil)))))))⟩,
      is_TooMuch := ⟨_, PySem.W.mg_of KX N (by k_is), (EV.isT_cons rfl ⟨by k_is, by k_is, by k_is, by k_is, by k_is, by k_is, by k_is, by k_is⟩ (by kernel_rfl) (EV.isT_cons rfl ⟨by k_is, by k_is, by k_is, by k_is, by k_is, by k_is, by k_is, by k_is⟩ (by kernel_rfl) (EV.isT_cons rfl ⟨by k_is, by k_is, by k_is, by k_is, by k_is, by k_is, by k_is, by k_is⟩ (by kernel_rfl) (EV.isT_cons rfl ⟨by k_is, by k_is, by k_is, by k_is, by k_is, by k_is, by k_is, by k_is⟩ (by kernel_rfl) (EV.isT_cons rfl ⟨by k_is, by k_is, by k_is, by k_is, by k_is, by k_is, by k_is, by k_is⟩ (by kernel_rfl) (EV.isT_cons rfl ⟨by k_is, by k_is, by k_is, by k_is, by k_is, by k_is, by k_is, by k_is⟩ (by kernel_rfl) (EV.isT_cons rfl ⟨by k_is, by k_is, by k_is, by k_is, by k_is, by k_is, by k_is, by k_is⟩ (by kernel_rfl) EV.isT_nil)))))))⟩,
      is_Unfit := ⟨_, PySem.W.mg_of KX N (by k_is), (EV.isT_cons rfl ⟨by k_is, by k_is, by k_is, by k_is, by k_is, by k_is, by k_is, by k_is⟩ (by kernel_rfl) (EV.isT_cons rfl ⟨by k_is, by k_is, by k_is, by k_is, by k_is, by k_is, by k_is, by k_is⟩ (by kernel_rfl) (EV.isT_cons rfl ⟨by k_is, by k_is, by k_is, by k_is, by k_is, by k_is, by k_is, by k_is⟩ (by kernel_rfl) (EV.isT_cons rfl ⟨by k_is, by k_is, by k_is, by k_is, by k_is, by k_is, by k_is, by k_is⟩ (by kernel_rfl) (EV.isT_cons rfl ⟨by k_is, by k_is, by k_is, by k_is, by k_is, by k_is, by k_is, by k_is⟩ (by kernel_rfl) (EV.isT_cons rfl ⟨by k_is, by k_is, by k_is, by k_is, by k_is, by k_is, by k_is, by k_is⟩ (by kernel_rfl) (EV.isT_cons rfl ⟨by k_is, by k_is, by k_is, by k_is, by k_is, by k_is, by k_is, by k_is⟩ (by kernel_rfl) EV.isT_nil)))))))⟩,
      is_ValueError := (EV.isT_cons rfl ⟨by k_is, by k_is, by k_is, by k_is, by k_is, by k_is, by k_is, by k_is⟩ (by kernel_rfl) (EV.isT_cons rfl ⟨by k_is, by k_is, by k_is, by k_is, by k_is, by k_is, by k_is, by k_is⟩ (by kernel_rfl) (EV.isT_cons rfl ⟨by k_is, by k_is, by k_is, by k_is, by k_is, by k_is, by k_is, by k_is⟩ (by kernel_rfl) (EV.isT_cons rfl ⟨by k_is, by k_is, by k_is, by k_is, by k_is, by k_is, by k_is, by k_is⟩ (by kernel_rfl) (EV.isT_cons rfl ⟨by k_is, by k_is, by k_is, by k_is, by k_is, by k_is, by k_is, by k_is⟩ (by kernel_rfl) (EV.isT_cons rfl ⟨by k_is, by k_is, by k_is, by k_is, by k_is, by k_is, by k_is, by k_is⟩ (by kernel_rfl) (EV.isT_cons rfl ⟨by k_is, by k_is, by k_is, by k_is, by k_is, by k_is, by k_is, by k_is⟩ (by kernel_rfl) EV.isT_nil))))))) }⟩
    exact ⟨_, [], [], _, _, _, EV.clOf Cs, trivial, L00.law_at hfa A0 A1 A2 A3 A4 A5 CF0.i_NoPlace CF0.ik_NoPlace CF0.v_NoPlace CF0.f_NoPlace_place CF0.n_NoPlace CF0.i_BadLine CF0.ik_BadLine CF0.v_BadLine CF0.f_BadLine_line CF0.n_BadLine CF0.e_CanNot CF0.e_TooMuch CF0.e_Unfit CF0.t_Ring CF0.tk_Ring CF0.v_Ring CF0.f_Ring_names CF0.n_Ring CF0.t_Endless CF0.tk_Endless CF0.v_Endless CF0.f_Endless_names CF0.n_Endless CF0.is_BadLine CF0.is_CanNot CF0.is_Endless CF0.is_IndexError CF0.is_KeyError CF0.is_LookupError CF0.is_NoPlace CF0.is_Ring CF0.is_TooMuch CF0.is_Unfit CF0.is_ValueError m_IndexError m_KeyError m_LookupError m_ValueError m_abs m_all m_bool m_int m_isinstance m_len m_list m_range m_str m_tuple m_zip⟩
