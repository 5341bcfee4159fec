package image

// polynomial is that of CRC-32, its lowest power in the highest bit. At the length of an image
// no one, two or three turned bits leave a body and its checksum in step.
const polynomial = 0xEDB88320

func appendChecksum(body []byte) []byte {
	sum := checksum(body)
	return append(body, byte(sum>>24), byte(sum>>16), byte(sum>>8), byte(sum))
}

func checksum(body []byte) uint32 {
	sum := ^uint32(0)
	for _, b := range body {
		sum ^= uint32(b)
		for range 8 {
			sum = sum>>1 ^ sum&1*polynomial
		}
	}
	return ^sum
}
