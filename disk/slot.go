package disk

import (
	"rookery/api"
	"rookery/image"
)

// Where the parts of a slot begin; its number stands ahead of them.
const (
	lengthAt = 4
	sumAt    = 7
	imageAt  = 9
)

const modulus = 65521

// content is what a whole slot has.
type content struct {
	number uint32
	p      api.Pool
}

// readSlot answers what slot has, and whether it is whole; if not, zero.
func readSlot(slot []byte) (content, bool) {
	if len(slot) < imageAt {
		return content{}, false
	}
	length := int(number(slot[lengthAt:sumAt]))
	if length > len(slot)-imageAt {
		return content{}, false
	}
	slot = slot[:imageAt+length]
	if number(slot[sumAt:imageAt]) != sum(slot) {
		return content{}, false
	}
	p, e := image.Read(slot[imageAt:])
	if e != api.OK {
		return content{}, false
	}
	return content{number: number(slot[:lengthAt]), p: p}, true
}

// writeSlot answers a slot of that number and image.
func writeSlot(n uint32, laid []byte) []byte {
	length := len(laid)
	slot := []byte{
		byte(n >> 24), byte(n >> 16), byte(n >> 8), byte(n),
		byte(length >> 16), byte(length >> 8), byte(length),
		0, 0,
	}
	slot = append(slot, laid...)
	s := sum(slot)
	slot[sumAt], slot[sumAt+1] = byte(s>>8), byte(s)
	return slot
}

// number answers the number that stands in b, its highest byte first.
func number(b []byte) uint32 {
	n := uint32(0)
	for _, x := range b {
		n = n<<8 | uint32(x)
	}
	return n
}

// sum answers the sum of a slot with nothing behind its image; it passes over the place where it stands itself.
func sum(slot []byte) uint32 {
	x, y := uint32(1), uint32(0)
	for _, part := range [2][]byte{slot[:sumAt], slot[imageAt:]} {
		for _, b := range part {
			x = (x + uint32(b)) % modulus
			y = (y + x) % modulus
		}
	}
	return x ^ y
}
