package wire

import "lattice/api"

// part is one of the things that stand behind a kind.
type part int

const (
	partPred part = iota
	partNode
	partList
	partDone
	partErr
	partKey
	partData
	partLease
)

// rowOf is what stands behind a kind, in its order, and whether there is such a kind. One whose end is another's whole row falls through to it, so that the two stay alike.
func rowOf(kind int) ([]part, bool) {
	var row []part
	switch kind {
	case api.KInfo:
	case api.KDone:
		row = append(row, partErr)
	case api.KNext, api.KGet, api.KFind:
		row = append(row, partKey)
	case api.KTold:
		row = append(row, partPred, partList)
	case api.KWay:
		row = append(row, partDone, partList)
	case api.KHave:
		row = append(row, partErr, partData)
	case api.KCache:
		row = append(row, partKey, partData)
	case api.KPut:
		row = append(row, partKey)
		fallthrough
	case api.KSet:
		row = append(row, partData, partNode, partLease)
	case api.KNotify:
		row = append(row, partNode)
	default:
		return nil, false
	}
	return row, true
}

// form is how a number is written.
type form int

const (
	aNode form = iota
	aCount
	aLength
	aTime
	anErr
	aDone
)

// Pred may be no node, which is written as a byte that no node has.
const (
	noNode     = -1
	noNodeByte = 255
)

// bounds of a form: how many bytes a number has, its least and its greatest.
func bounds(f form) (size, least, most int) {
	switch f {
	case aNode:
		return 1, 0, api.MaxNodes - 1
	case aCount:
		return 1, 0, api.MaxNodes
	case aLength:
		return 2, 0, api.MaxBytes
	case aTime:
		return 4, 1, api.MaxLease
	case anErr:
		return 1, int(api.OK), int(api.ErrBusy)
	}
	return 1, 0, 1
}
