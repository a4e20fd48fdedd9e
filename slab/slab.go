// Package slab is layer 1: sectors that tell which one they are, of which time, and that they were written as a whole.
package slab

import (
	"strings"

	"careen/api"
)

// What stands where in a slab's sector.
const (
	epochAt = 0
	indexAt = 4
	sizeAt  = 8
	bodyAt  = 12
	sumAt   = bodyAt + api.Body
)

const polynomial = 0xEDB88320

// Sum answers the CRC-32 of IEEE 802.3 of bytes.
func Sum(s string) uint32 {
	steps := halfSteps()
	sum := ^uint32(0)
	for i := range len(s) {
		b := uint32(s[i])
		sum = sum>>4 ^ steps[(sum^b)&15]
		sum = sum>>4 ^ steps[(sum^b>>4)&15]
	}
	return ^sum
}

// halfSteps answers what each half byte does to a sum. Sixteen steps are soon made, so that none need be kept from call to call.
func halfSteps() [16]uint32 {
	var steps [16]uint32
	for i := range steps {
		step := uint32(i)
		for range 4 {
			if step&1 == 1 {
				step = step>>1 ^ polynomial
			} else {
				step >>= 1
			}
		}
		steps[i] = step
	}
	return steps
}

// Pack answers the sector of a slab; ErrArg, if its body is too long for one.
func Pack(x api.Slab) (string, api.Errno) {
	if len(x.Body) > api.Body {
		return "", api.ErrArg
	}
	var sector [api.Sector]byte
	putHighFirst(sector[epochAt:], x.Epoch)
	putHighFirst(sector[indexAt:], x.Index)
	// A length of two bytes, and the two noughts behind it.
	putHighFirst(sector[sizeAt:], uint32(len(x.Body))<<16)
	copy(sector[bodyAt:], x.Body)
	putLowFirst(sector[sumAt:], Sum(string(sector[:sumAt])))
	return string(sector[:]), api.OK
}

// Unpack answers the slab of a sector; ErrTorn, if the text is no slab's sector.
func Unpack(s string) (api.Slab, api.Errno) {
	if len(s) != api.Sector {
		return api.Slab{}, api.ErrTorn
	}
	size := int(s[sizeAt])<<8 | int(s[sizeAt+1])
	if size > api.Body {
		return api.Slab{}, api.ErrTorn
	}
	x := api.Slab{
		Epoch: getHighFirst(s[epochAt:]),
		Index: getHighFirst(s[indexAt:]),
		Body:  strings.Clone(s[bodyAt : bodyAt+size]), // else the body would keep the whole sector
	}
	// A slab has just one sector, so packing it again checks the noughts and the sum at once.
	if again, e := Pack(x); e != api.OK || again != s {
		return api.Slab{}, api.ErrTorn
	}
	return x, api.OK
}

// Zero answers a sector of noughts.
func Zero() string {
	var sector [api.Sector]byte
	return string(sector[:])
}

func putHighFirst(to []byte, n uint32) {
	for i := range 4 {
		to[i] = byte(n >> (24 - 8*i))
	}
}

func putLowFirst(to []byte, n uint32) {
	for i := range 4 {
		to[i] = byte(n >> (8 * i))
	}
}

func getHighFirst(s string) uint32 {
	var n uint32
	for i := range 4 {
		n = n<<8 | uint32(s[i])
	}
	return n
}
